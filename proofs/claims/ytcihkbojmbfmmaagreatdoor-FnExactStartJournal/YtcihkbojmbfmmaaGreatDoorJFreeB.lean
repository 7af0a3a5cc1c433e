import Derived.Test.YtcihkbojmbfmmaaGreatDoorJTrR
import Derived.Deep.AppendSrc
import Derived.Deep.Upon
import Derived.Test.YtcihkbojmbfmmaaGreatDoorJIBg
import Derived.Test.YtcihkbojmbfmmaaGreatDoorJMath
import Derived.Test.YtcihkbojmbfmmaaGreatDoorJShK
namespace Go.Proofs.YtcihkbojmbfmmaaGreatDoor
open Go.RowKit
theorem Tryz.infoB:(Tryz.prog.info? 5).map (fun i=>(i.zero,i.size,i.bytes))=some (some (.int .u8 0),1,1):=by kernel_rfl
def FRow(w:World)(B:Nat)(v:Value)(l:List UInt8):Prop:=
 ∃ g cap,v=.slice (some ⟨g,0,none⟩) l.length cap∧l.length<=cap∧cap<=maxLen∧B<=g∧g<w.heap.size∧
   (∀ j,j<cap->(w.cell? ⟨g,j,none⟩).isSome=true∧w.frozen? ⟨g,j,none⟩=false)∧
   (∀ (j:Nat) (c:UInt8),l[j]? =some c->w.cell? ⟨g,j,none⟩=some (.int .u8 (c.toNat:Int)))
theorem bys_get{l:List UInt8}{j:Nat}{u:Value}(h:(Nm.bys l)[j]? =some u):∃ c,l[j]? =some c∧u=.int .u8 (c.toNat:Int):=by
 simp [Nm.bys] at h
 obtain⟨c,h1,h2⟩:=h;exact⟨c,h1,h2.symm⟩
theorem sc_size(b:Nat):∀ (vs:List Value) (o:Nat) (w:World),(w.setCells b o vs).heap.size=w.heap.size:=by
 intro vs
 induction vs with
 |nil=>intro o w;rfl
 |cons v vs ih=>intro o w;rw [World.setCells,ih];simp
theorem sc_tape(b:Nat):∀ (vs:List Value) (o:Nat) (w:World),(w.setCells b o vs).tape=w.tape:=by
 intro vs
 induction vs with
 |nil=>intro o w;rfl
 |cons v vs ih=>intro o w;rw [World.setCells,ih];simp
theorem FRow.app{w:World}{B:Nat}{v:Value}{l:List UInt8}(h:FRow w B v l)(hB:B<=w.heap.size)(tx:TypeId)(x:Value)(r:List UInt8)
 (hs:_root_.Go.Src Tryz.prog 1 tx x r.length (Nm.bys r) w) (hlen:l.length+r.length<=1000000000000):
 ∃ v' w',(∀ ty,(Builtin.append_ #[26,tx] ty #[v,x]).run Tryz.prog w=.ok v' w')∧FRow w' B v' (l++r)∧Below B w w':=by
 obtain⟨g,cap,rfl,h1,h2,h3,h4,h5,h6⟩:=h;obtain⟨i0,hi,hz0,hz1,hz2⟩:=info_parts Tryz.infoB;have hbl:(Nm.bys r).length=r.length:=Nm.bys_length r
 by_cases hroom:l.length+r.length<=cap
 ·have hc:∀ j,j<(Nm.bys r).length->(w.cell? ⟨g,0+l.length*i0.size+j,none⟩).isSome=true:=by
   intro j hj;rw [hz1,Nat.zero_add,Nat.mul_one];exact(h5 _ (by omega)).1
  have hf:∀ j,j<(Nm.bys r).length->w.frozen? ⟨g,0+l.length*i0.size+j,none⟩=false:=by
   intro j hj;rw [hz1,Nat.zero_add,Nat.mul_one];exact(h5 _ (by omega)).2
  have hr:=fun ty=>run_append_room_src (P:=Tryz.prog) w 26 tx ty 5 i0 Tryz.underlying26 hi g 0 l.length cap x r.length (Nm.bys r) (by rw [hz1];exact hs) hroom hc hf
  simp only [hz1,Nat.zero_add,Nat.mul_one] at hr;rw [hz1,Nat.zero_add,Nat.mul_one] at hc;refine⟨_,_,hr,⟨g,cap,by rw [List.length_append],by rw [List.length_append];exact hroom,h2,h3,?_,?_,?_⟩,?_⟩
  ·rw [sc_size];exact h4
  ·intro j hj;refine⟨?_,by rw [World.frozen?_setCells];exact(h5 j hj).2⟩
   by_cases hin:l.length<=j∧j<l.length+r.length
   ·have e:=World.cell?_setCells_in g (Nm.bys r) l.length w hc (j-l.length) (by omega);rw [show l.length+(j-l.length)=j by omega] at e;rw [e];rfl
   ·rw [World.cell?_setCells_out g _ _ _ _ (fun _ _=>by simp only [hbl];omega)];exact(h5 j hj).1
  ·intro j c hj
   by_cases hlt:j<l.length
   ·rw [List.getElem?_append_left hlt] at hj;rw [World.cell?_setCells_out g _ _ _ _ (fun _ _=>.inl hlt)];exact h6 j c hj
   ·rw [List.getElem?_append_right (by omega)] at hj;have hjr:j-l.length<r.length:=(List.getElem?_eq_some_iff.1 hj).1;have e:=World.cell?_setCells_in g (Nm.bys r) l.length w hc (j-l.length) (by omega);rw [show l.length+(j-l.length)=j by omega] at e;rw [e];have e2:(Nm.bys r)[j-l.length]? =some (.int .u8 (c.toNat:Int)):=by simp [Nm.bys,hj]
    rw [List.getElem?_eq_getElem (by omega)] at e2;exact e2
  ·exact⟨World.os_setCells _ _ _ _,sc_tape _ _ _ _,World.output_setCells _ _ _ _,Nat.le_of_eq (sc_size _ _ _ _).symm,fun k hk=>World.heap_setCells_other w g _ _ (by omega) (by omega)⟩
 ·have hold:(Builtin.firstCells i0.size l.length (.slice (some ⟨g,0,none⟩) l.length cap)).run Tryz.prog w.drew=.ok (Nm.bys l).toArray w.drew:=by
   rw [hz1];refine run_firstCells_some w.drew 1 l.length ⟨g,0,none⟩ l.length cap (Nm.bys l) (by rw [Nm.bys_length,Nat.mul_one]) ?_;intro j u hu;obtain⟨c,hc,rfl⟩:=bys_get hu;have:=h6 j c hc;rw [Nm.addr_add,Nat.zero_add];exact this
  have hr:=fun ty=>run_append_grow_src (P:=Tryz.prog) w 26 tx ty 5 i0 (.int .u8 0) Tryz.underlying26 hi hz0 (some ⟨g,0,none⟩) l.length cap (Nm.bys l) hold x r.length (Nm.bys r) (by rw [hz1];exact hs) (by omega) (by omega) (by rw [hz2];exact growslice_fits (by omega) (by omega))
  have hge:=grownCap_ge w (l.length+r.length) cap 5;have hle:=grownCap_le_maxLen w (l.length+r.length) cap 5 (by unfold maxLen;omega);generalize grownCap w (l.length+r.length) cap 5=C at*
  have hall:∀ j,j<C->∃ u,((Nm.bys l++Nm.bys r).toArray++Builtin.zeroCells (Value.int IntKind.u8 0).cells (C-(l.length+r.length)))[j]? =some u:=by
   intro j hj
   have hz:((Nm.bys l++Nm.bys r).toArray++Builtin.zeroCells (Value.int IntKind.u8 0).cells (C-(l.length+r.length))).size=C:=by
    have hz1':(Value.int IntKind.u8 0).cells.size=1:=rfl;simp only [Array.size_append,List.size_toArray,size_zeroCells,hz1',List.length_append,Nm.bys_length];omega
   exact⟨_,Array.getElem?_eq_getElem (by omega)⟩
  have hcell:∀ j,(w.drew.alloc (.cells ((Nm.bys l++Nm.bys r).toArray++Builtin.zeroCells (Value.int IntKind.u8 0).cells (C-(l.length+r.length))) 5)).cell? ⟨w.heap.size,j,none⟩=((Nm.bys l++Nm.bys r).toArray++Builtin.zeroCells (Value.int IntKind.u8 0).cells (C-(l.length+r.length)))[j]? :=by
   intro j;exact World.cell?_alloc_new w.drew _ _ j
  refine⟨_,_,hr,⟨w.heap.size,C,by rw [List.length_append],by rw [List.length_append];exact hge,hle,hB,by simp,?_,?_⟩,?_⟩
  ·intro j hj;obtain⟨u,hu⟩:=hall j hj;exact⟨by rw [hcell,hu];rfl,World.frozen?_alloc_new w.drew _ _ j⟩
  ·intro j c hj;rw [hcell]
   have e:(Nm.bys l++Nm.bys r)[j]? =some (.int .u8 (c.toNat:Int)):=by
    rw [<- Nm.bys_append,Nm.bys,List.getElem?_map,hj];rfl
   rw [Array.getElem?_append_left (by have:=(List.getElem?_eq_some_iff.1 e).1;simpa using this)];simpa using e
  ·exact((Below.refl B w).drew).alloc hB _
theorem FRow.below{w w':World}{B:Nat}{v:Value}{l:List UInt8}(h:FRow w B v l)(hb:Below w.heap.size w w'):FRow w' B v l:=by
 obtain⟨g,cap,rfl,h1,h2,h3,h4,h5,h6⟩:=h;have hc:∀ j,w'.cell? ⟨g,j,none⟩=w.cell? ⟨g,j,none⟩:=fun j=>hb.cell h4
 have hfz:∀ j,w'.frozen? ⟨g,j,none⟩=w.frozen? ⟨g,j,none⟩:=fun j=>by
  simp only [World.frozen?,hb.block g h4]
 refine⟨g,cap,rfl,h1,h2,h3,Nat.lt_of_lt_of_le h4 hb.size,?_,?_⟩
 ·intro j hj;rw [hc,hfz];exact h5 j hj
 ·intro j c hj;rw [hc];exact h6 j c hj
theorem FRow.str{w:World}{B:Nat}{v:Value}{l:List UInt8}(h:FRow w B v l):(convert 26 9 v).run Tryz.prog w=.ok (.string ⟨l.toArray⟩) w:=by
 obtain⟨g,cap,rfl,h1,h2,h3,h4,h5,h6⟩:=h;refine run_convert_bytes_back w 26 9 5 ⟨g,0,none⟩ cap l Tryz.underlying26 Tryz.underlying5 Tryz.underlying9 ?_;intro j hj;rw [Nm.addr_add,Nat.zero_add];exact h6 j _ (List.getElem?_eq_getElem hj)
theorem FRow.new(s:ByteArray)(w:World)(hs:s.size<=1000000000000):∃ v W,(convert 9 26 (.string s)).run Tryz.prog w=.ok v W∧FRow W w.heap.size v s.data.toList∧Below w.heap.size w W:=by
 have hge:=grownCap_ge w s.size 0 5;have hle:=grownCap_le_maxLen w s.size 0 5 (by unfold maxLen;omega);have hr:=run_bytes_of_string w 9 26 5 s Tryz.underlying9 Tryz.underlying26 Tryz.underlying5;generalize grownCap w s.size 0 5=C at*;have hl:s.data.toList.length=s.size:=by simp
 have hz:(bytesRow s C).size=C:=by
  have:s.data.size=s.size:=rfl;simp [bytesRow];omega
 have hcell:∀ j,(w.drew.alloc (.cells (bytesRow s C) 5 ((bytesRow s C).size,(bytesRow s C).size+1))).cell? ⟨w.heap.size,j,none⟩=(bytesRow s C)[j]? :=fun j=>
  cell_of_row _ w.heap.size j _ 5 _ (heap_alloc_new w.drew _)
 refine⟨_,_,hr,⟨w.heap.size,C,by rw [hl],by omega,hle,Nat.le_refl _,by simp,?_,?_⟩,((Below.refl _ w).drew).alloc (Nat.le_refl _) _⟩
 ·intro j hj;refine⟨by rw [hcell,Array.getElem?_eq_getElem (by omega)];rfl,?_⟩;have e:=World.frozen?_alloc_mark w.drew (bytesRow s C) 5 (bytesRow s C).size ((bytesRow s C).size+1) j;rw [show w.heap.size=w.drew.heap.size from rfl,e]
  simp;omega
 ·intro j c hj
  have hj':j<s.data.size:=by
   have:=(List.getElem?_eq_some_iff.1 hj).1;simpa using this
  have hc:s.data[j]=c:=by
   have:=(List.getElem?_eq_some_iff.1 hj).2;simpa using this
  rw [hcell,bytesRow_at s _ j hj',hc]
theorem wpList_append_run{ops:Array Oper}{rest:List Oper}{o:Oper}{a:Act}{w:World}{Q:Exit->Act->World->Prop}(hgd:o.guard=none)(s x:Operand)(t u:TypeId)
 (ho:o.op=.call {callee:=.builtin .append,args:=#[s,x],argTypes:=#[t,u]}) (v xv:Value) (hs:a.eval s=v) (hx:a.eval x=xv)
 (v':Value) (w':World) (hr:∀ ty,(Builtin.append_ #[t,u] ty #[v,xv]).run Tryz.prog w=.ok v' w')
 (h:wpList Tryz.prog ops Q rest (a.put o.dst v') w'):wpList Tryz.prog ops Q (o::rest) a w:=by
 refine wpList_plain hgd fun K hK=>?_
 have hr:=hr o.type;unfold Oper.wp execOp;simp only [ho,resolve,invoke,builtin,Sem.run_bind,Sem.run_pure,Result.andThen_ok,List.map_toArray,List.map_cons,List.map_nil,hs,hx,hr];exact hK _ _ h
end Go.Proofs.YtcihkbojmbfmmaaGreatDoor
namespace Go.Proofs.YtcihkbojmbfmmaaGreatDoor
open Go.RowKit
set_option linter.unusedVariables false
theorem FRow.read{w:World}{B:Nat}{v:Value}{l:List UInt8}(h:FRow w B v l):BySl w v l:=by
 obtain⟨g,cap,rfl,h1,h2,h3,h4,h5,h6⟩:=h;refine⟨by rw [Nm.bys_length,Nat.mul_one],_,cap,rfl,h1,h2,fun _=>⟨g,0,rfl,fun i x hx=>?_⟩⟩;obtain⟨c,hc,rfl⟩:=bys_get hx;rw [Nat.zero_add];exact h6 i c hc
theorem FRow.sl{w:World}{B:Nat}{v:Value}{l:List UInt8}(h:FRow w B v l):∃ a c,v=.slice a l.length c:=by
 obtain⟨g,cap,rfl,_⟩:=h;exact⟨_,_,rfl⟩
theorem FRow.push{w:World}{B:Nat}{v:Value}{l:List UInt8}(h:FRow w B v l)(c:UInt8)(hB:B<=w.heap.size)(hlen:l.length<=1000000000):
 ∃ v' w',(∀ ty,(Builtin.append_ #[26,26] ty #[v,.slice (some ⟨w.heap.size,0,none⟩) 1 1]).run Tryz.prog (w.alloc (.cells #[.int .u8 (c.toNat:Int)] 5))=.ok v' w')∧FRow w' B v' (l++[c])∧Below B w w':=by
 have hb:=(Below.refl w.heap.size w).alloc (Nat.le_refl _) (.cells #[.int .u8 (c.toNat:Int)] 5)
 have hs:_root_.Go.Src Tryz.prog 1 26 (.slice (some ⟨w.heap.size,0,none⟩) 1 1) [c].length (Nm.bys [c]) (w.alloc (.cells #[.int .u8 (c.toNat:Int)] 5)):=
  Src.ofSlice _ Tryz.underlying26 _ _ _ _ rfl (cell_new1 _ _ _) (by intro u hu;obtain⟨b,_,rfl⟩:=List.mem_map.1 hu;rfl)
 obtain⟨v',w',h1,h2,h3⟩:=(h.below hb).app (by rw [World.size_alloc];omega) _ _ [c] hs (by simp;omega);exact⟨v',w',h1,h2,(Below.refl B w).alloc hB _|>.trans h3⟩
theorem put_two{l x:List UInt8}{k:Nat}{c:UInt8}(h:x[k]? =some c):l++x.take k++[c]=l++x.take (k+1):=by
 rw [List.take_add_one,h,List.append_assoc];rfl
set_option maxRecDepth 100000 in
set_option maxHeartbeats 3200000 in
theorem l12Records_any(v:Value)(xs:List Rr)(w:World)(h:CRow w v xs.length 5 (rvVs xs))(hf:∀ r∈xs,RcF r)(hl:xs.length<=500)(hs:(rcsP xs).length<=1181076):
 Calls Tryz.prog 30 #[v] w fun e w'=>e=.returned (.string ⟨(bigL xs.length 2++rcsP xs).toArray⟩)∧Below w.heap.size w w':=by
 obtain⟨_,av,cv,rfl,hcap,hmx,hcc⟩:=h;have hp:=l02PutN_any xs.length 2 w (by omega) (by decide) (by decide);go_enter Tryz.func30,Tryz.ntmps30;go_wp2_with fail
 refine hp.mono ?_;rintro e w1 ⟨rfl,b1⟩;obtain⟨v0,W0,hcv,hF0,hB0⟩:=FRow.new ⟨(bigL xs.length 2).toArray⟩ w1 (by show Array.size _<=_;simp [bigL_len])
 have hF1:FRow W0 w.heap.size v0 (bigL xs.length 2++rcsP (xs.take 0)):=by
  obtain⟨g,cap,e1,e2,e3,e4,e5⟩:=hF0;refine⟨g,cap,by simpa [rcsP] using e1,by simpa [rcsP] using e2,e3,Nat.le_trans b1.size e4,?_⟩;simpa [rcsP] using e5
 have hB1:=Nm.below_two b1 hB0;clear hF0 hB0 b1 hp;go_wp2
 go_loopw [3,4] (fun u i wr=>∃ k:Nat,k<=xs.length∧i=.int .i64 k∧FRow wr w.heap.size u (bigL xs.length 2++rcsP (xs.take k))∧Below w.heap.size w wr) (fun _ i _=>xs.length-(intOf i).toNat)
 case atStart=>exact⟨0,Nat.zero_le _,rfl,hF1,hB1⟩
 case round=>
  clear hF1 hB1 hcv;obtain⟨k,hk,rfl,hF,hbel⟩:=hrel
  by_cases hlt:k<xs.length
  ·obtain⟨r,hr⟩:∃ r,xs[k]? =some r:=⟨_,List.getElem?_eq_getElem hlt⟩;obtain⟨b,off,rfl,hcell⟩:=hcc (by omega);obtain⟨c0,c1',c2,c3,c4⟩:=rv_cells hcell hr;have put:∀ {O:Nat} {z:Value},w.cell? ⟨b,O,none⟩=some z->wr.cell? ⟨b,O,none⟩=some z:=fun h=>(hbel.cell (World.block_lt_of_cell? w _ h)).trans h
   replace c0:=put c0
   replace c1':=put c1'
   replace c2:=put c2
   replace c3:=put c3
   replace c4:=put c4
   have hrec:=l12Record_any r wr (hf r (List.mem_of_getElem? hr));have HST:Hid (rcsP (xs.take (k+1))=rcsP (xs.take k)++rcP r):=rcsP_step hr;have HM:Hid ((rcsP (xs.take (k+1))).length<=(rcsP xs).length):=rcsP_mono;have i1:(0:Int)<=(k:Int):=by omega
   have i2:(k:Int)<(xs.length:Int):=by omega
   obtain⟨L0,hL0⟩:∃ L0,L0=bigL xs.length 2++rcsP (xs.take k):=⟨_,rfl⟩;rw [<- hL0] at hF
   have hLr:L0.length+(rcP r).length<=2000000:=by
    have h1:=HM.out;rw [HST.out,List.length_append] at h1;rw [hL0,List.length_append,bigL_len];omega
   have HL0:=Nm.hide hL0;clear hL0 hcc hcell put;obtain⟨R,hR⟩:∃ R,R=rcP r:=⟨_,rfl⟩;rw [<- hR] at hrec hLr;have HR:=Nm.hide hR;clear hR;obtain⟨S,hS⟩:∃ S:ByteArray,S=⟨R.toArray⟩:=⟨_,rfl⟩;rw [<- hS] at hrec;have hSz:S.size=R.length:=by rw [hS];show Array.size _=_;simp
   have hSg:∀ (j:Nat) (c:UInt8),R[j]? =some c->∀ W,(Instr.index 9 (.string S) (.int .i64 (j:Int))).run Tryz.prog W=.ok (.int .u8 (c.toNat:Int)) W:=by intro j c hj W;rw [hS];exact byte_of R j c hj W
   clear hS;obtain⟨ow,ty,cl,tt,da⟩:=r;simp only at c0 c1' c2 c3 c4 hrec
   go_wp2_with fail
   refine hrec.mono ?_;rintro e w2 ⟨rfl,b2⟩;have hF2:=hF.below b2;have hb2:=Nm.below_two hbel b2;clear c0 c1' c2 c3 c4 hrec hF hbel b2;go_wp2
   go_loopw [3,6] (fun u i wr=>∃ j:Nat,j<=R.length∧i=.int .i64 j∧FRow wr w.heap.size u (L0++R.take j)∧Below w.heap.size w wr) (fun _ i _=>R.length-(intOf i).toNat)
   case atStart=>exact⟨0,Nat.zero_le _,rfl,by simpa using hF2,hb2⟩
   case round=>
    clear hF2 hb2;obtain⟨j,hj,rfl,hF,hbel⟩:=hrel
    by_cases hjt:j<R.length
    ·obtain⟨c,hc⟩:∃ c,R[j]? =some c:=⟨_,List.getElem?_eq_getElem hjt⟩;have j1:(0:Int)<=(j:Int):=by omega
     have j2:(j:Int)<(S.size:Int):=by omega
     have hidx:=hSg j c hc;obtain⟨v',w',hrun,hF',hb'⟩:=hF.push c hbel.size (by rw [List.length_append,List.length_take];omega);rw [put_two hc] at hF';have hb3:=hbel.trans hb';clear hF hbel hb' hc hSg;go_wp2_with (at_builtin;refine wpList_append_run rfl (.tmp 28) (.tmp 32) 26 26 rfl _ _ rfl rfl _ _ hrun ?_)
     go_roundw
     case rel=>exact⟨j+1,by omega,by go_num,hF',hb3⟩
     case measure=>simp [intOf];omega
    ·obtain rfl:j=R.length:=by omega
     rw [List.take_length] at hF;have j2:¬(R.length:Int)<(S.size:Int):=by omega
     rw [show L0++R=bigL xs.length 2++rcsP (xs.take (k+1)) by rw [HST.out,<- HR.out,<- List.append_assoc,<- HL0.out]] at hF;go_wp2;go_roundw
     case rel=>exact⟨k+1,by omega,by go_num,hF,hbel⟩
     case measure=>simp [intOf];omega
  ·obtain rfl:k=xs.length:=by omega
   rw [List.take_length] at hF;have i2:¬(xs.length:Int)<(xs.length:Int):=by omega
   have hstr:=hF.str;clear hcc;go_wp2;go_ret;exact⟨rfl,hbel⟩
def slLenS:Value->Nat
 |.slice _ k _=>k
 |_=>0
set_option maxRecDepth 1000000 in
set_option maxHeartbeats 16000000 in
theorem sha_copy(B:Nat)(l:List UInt8)(a:Option Addr)(cap:Nat)(hl:l.length<=3000000)(Q0:Exit->Act->World->Prop)(w:World)(hB:B<=w.heap.size)(u0:Value)(hro:w.ownsRow B 5 1 u0 0 [])
 (hc:0<l.length->∃ b off,a=some ⟨b,off,none⟩∧b<B∧∀ k c,l[k]? =some c->w.cell? ⟨b,off+k,none⟩=some (.int .u8 (c.toNat:Int)))
 (s1 s2 s5 s6 s7 s8 s9 s10 s11 s12 s13 s14 s15 s16 s17 s18 s19 s20 s21 s22 s23 s24 s25 s26 s27 s28 s29 s30 s31 s32 s33 s34 s35 s36 s37 s38 s39 s40 s41 s42 s43 s44 s45 s46 s47 s48 s49 s50 s51 s52 s53 s54 s55 s56 s57 s58 s59 s60 s61 s62 s63 s64 s65 s66 s67 s68 s69 s70 s71 s72 s73 s74 s75 s76 s77 s78 s79 s80 s81 s82 s83 s84 s85 s86 s87 s88 s89 s90 s91 s92 s93 s94 s95 s96 s97 s98 s99 s100 s101 s102 s103 s104 s105 s106 s107 s108 s109 s110 s111 s112 s113 s114 s115 s116 s117 s118 s119 s120 s121 s122 s123 s124 s125 s126 s127 s128 s129 s130 s131 s132 s133 s134 s135 s136 s137 s138 s139 s140 s141 s142 s143 s144 s145 s146 s147 s148 s149 s150 s151 s152 s153 s154 s155 s156 s157 s158 s159 s160 s161 s162 s163 s164 s165 s166 s167 s168 s169 s170 s171 s172 s173 s174 s175 s176 s177 s178 s179 s180 s181 s182 s183 s184 s185 s186 s187 s188 s189 s190 s191 s192 s193 s194 s195 s196 s197 s198 s199 s200 s201 s202 s203 s204 s205 s206 s207 s208 s209 s210 s211 s212 s213 s214 s215 s216 s217 s218 s219 s220 s221 s222 s223 s224 s225 s226 s227 s228 s229 s230 s231 s232 s233 s234 s235 s236 s237 s238 s239 s240 s241 s242 s243 s244 s245 s246 s247 s248 s249 s250 s251 s252 s253 s254 s255 s256 s257 s258 s259 s260 s261 s262 s263 s264 s265 s266:Value)
 (hexit:∀ (xa:Option Addr) (xc:Nat) (u4 u26 u27 u28 u29 u30 u31 u32 u33 u34 u35 u36 u37 u38:Value) (w':World),w'.ownsRow B 5 1 (.slice xa l.length xc) l.length (Nm.bys l)∧Below B w w'->Q0 (.exit 0) ⟨(.slice a l.length cap::s1::s2::.slice xa l.length xc::u4::s5::s6::s7::s8::s9::s10::s11::s12::s13::s14::s15::s16::s17::s18::s19::s20::s21::s22::s23::s24::s25::u26::u27::u28::u29::u30::u31::u32::u33::u34::u35::u36::u37::u38::s39::s40::s41::s42::s43::s44::s45::s46::s47::s48::s49::s50::s51::s52::s53::s54::s55::s56::s57::s58::s59::s60::s61::s62::s63::s64::s65::s66::s67::s68::s69::s70::s71::s72::s73::s74::s75::s76::s77::s78::s79::s80::s81::s82::s83::s84::s85::s86::s87::s88::s89::s90::s91::s92::s93::s94::s95::s96::s97::s98::s99::s100::s101::s102::s103::s104::s105::s106::s107::s108::s109::s110::s111::s112::s113::s114::s115::s116::s117::s118::s119::s120::s121::s122::s123::s124::s125::s126::s127::s128::s129::s130::s131::s132::s133::s134::s135::s136::s137::s138::s139::s140::s141::s142::s143::s144::s145::s146::s147::s148::s149::s150::s151::s152::s153::s154::s155::s156::s157::s158::s159::s160::s161::s162::s163::s164::s165::s166::s167::s168::s169::s170::s171::s172::s173::s174::s175::s176::s177::s178::s179::s180::s181::s182::s183::s184::s185::s186::s187::s188::s189::s190::s191::s192::s193::s194::s195::s196::s197::s198::s199::s200::s201::s202::s203::s204::s205::s206::s207::s208::s209::s210::s211::s212::s213::s214::s215::s216::s217::s218::s219::s220::s221::s222::s223::s224::s225::s226::s227::s228::s229::s230::s231::s232::s233::s234::s235::s236::s237::s238::s239::s240::s241::s242::s243::s244::s245::s246::s247::s248::s249::s250::s251::s252::s253::s254::s255::s256::s257::s258::s259::s260::s261::s262::s263::s264::s265::s266::[]).toArray,[]⟩ w'):
 Code.wp Tryz.prog (Code.loop shL1) Q0 ⟨(.slice a l.length cap::s1::s2::u0::.int .i64 0::s5::s6::s7::s8::s9::s10::s11::s12::s13::s14::s15::s16::s17::s18::s19::s20::s21::s22::s23::s24::s25::s26::s27::s28::s29::s30::s31::s32::s33::s34::s35::s36::s37::s38::s39::s40::s41::s42::s43::s44::s45::s46::s47::s48::s49::s50::s51::s52::s53::s54::s55::s56::s57::s58::s59::s60::s61::s62::s63::s64::s65::s66::s67::s68::s69::s70::s71::s72::s73::s74::s75::s76::s77::s78::s79::s80::s81::s82::s83::s84::s85::s86::s87::s88::s89::s90::s91::s92::s93::s94::s95::s96::s97::s98::s99::s100::s101::s102::s103::s104::s105::s106::s107::s108::s109::s110::s111::s112::s113::s114::s115::s116::s117::s118::s119::s120::s121::s122::s123::s124::s125::s126::s127::s128::s129::s130::s131::s132::s133::s134::s135::s136::s137::s138::s139::s140::s141::s142::s143::s144::s145::s146::s147::s148::s149::s150::s151::s152::s153::s154::s155::s156::s157::s158::s159::s160::s161::s162::s163::s164::s165::s166::s167::s168::s169::s170::s171::s172::s173::s174::s175::s176::s177::s178::s179::s180::s181::s182::s183::s184::s185::s186::s187::s188::s189::s190::s191::s192::s193::s194::s195::s196::s197::s198::s199::s200::s201::s202::s203::s204::s205::s206::s207::s208::s209::s210::s211::s212::s213::s214::s215::s216::s217::s218::s219::s220::s221::s222::s223::s224::s225::s226::s227::s228::s229::s230::s231::s232::s233::s234::s235::s236::s237::s238::s239::s240::s241::s242::s243::s244::s245::s246::s247::s248::s249::s250::s251::s252::s253::s254::s255::s256::s257::s258::s259::s260::s261::s262::s263::s264::s265::s266::[]).toArray,[]⟩ w:=by
 obtain⟨j0,hj,k0,k1,k2⟩:=info_parts Tryz.infoBy
 conv=>arg 2;arg 1;whnf
 go_loopw [3,4] (fun u i wr=>∃ k:Nat,k<=l.length∧i=.int .i64 k∧wr.ownsRow B 5 1 u k (Nm.bys (l.take k))∧Below B w wr) (fun _ i _=>l.length-(intOf i).toNat)
 case atStart=>exact⟨0,Nat.zero_le _,rfl,hro,Below.refl _ _⟩
 case round=>
  obtain⟨k,hk,rfl,hown,hbel⟩:=hrel;obtain⟨ya,yc,rfl⟩:=own_sl hown;clear hro
  by_cases hlt:k<l.length
  ·obtain⟨c,hx⟩:∃ c,l[k]? =some c:=⟨_,List.getElem?_eq_getElem hlt⟩;obtain⟨b,off,rfl,hbB,hcell⟩:=hc (by omega);have hcr:wr.cell? ⟨b,off+k,none⟩=some (.int .u8 (c.toNat:Int)):=(hbel.cell hbB).trans (hcell k c hx);have HT:=Nm.hide (show Nm.bys (l.take (k+1))=Nm.bys (l.take k)++[.int .u8 (c.toNat:Int)] by rw [List.take_add_one,hx,Nm.bys_append];rfl);have i1:(0:Int)<=(k:Int):=by omega
   have i2:(k:Int)<(l.length:Int):=by omega
   have hBr:B<=wr.heap.size:=Nat.le_trans hB hbel.size;clear hc hcell hx hexit;go_wp2_with (at_builtin;refine wpList_append_own _ rfl (.tmp 32) (.tmp 37) 26 rfl B 5 j0 (.int .u8 0) 1 1 Tryz.underlying26 hj k0 k1 k2 rfl (by decide) _ _ _ rfl (hown.alloc _) ⟨wr.heap.size,0,none⟩ 1 1 [.int .u8 (c.toNat:Int)] rfl rfl (cell_one_new _ _ _) (Nm.one_cell _ rfl) (by unfold maxLen;omega) (by omega) (by simp;omega) ?_;intro vb wb hown8 hgrow8 hnl8;clear hnl8)
   rw [<- HT.out] at hown8;have hrow:∀ q,Value.ownBlock (.slice ya k yc)=some q->B<=q:=fun q hq=>(hown.lt q hq).1
   have hB8:Below B w wb:=(hbel.alloc hBr _).grown hgrow8 (by rw [World.size_alloc];omega) hrow;obtain⟨za,zc,rfl⟩:=own_sl hown8;clear hgrow8 hown hbel;go_roundw
   case rel=>exact⟨k+1,by omega,by go_num,hown8,hB8⟩
   case measure=>simp [intOf];omega
  ·have hke:k=l.length:=by omega
   subst hke;rw [List.take_length] at hown;clear hc;have i2:¬(l.length:Int)<(l.length:Int):=by omega
   go_wp2
   all_goals exact⟨hown,hbel⟩
set_option maxRecDepth 1000000 in
set_option maxHeartbeats 16000000 in
theorem sha_pad(B:Nat)(l:List UInt8)(n0:Nat)(hn0:Hid (n0=l.length))(hl:n0<=3000000)(Q0:Exit->Act->World->Prop)(w:World)(hB:B<=w.heap.size)(xa0:Option Addr)(xc0:Nat)(hro:w.ownsRow B 5 1 (.slice xa0 (n0+1) xc0) (n0+1) (Nm.bys (l++[128])))
 (s0 s1 s2 s4 s5 s6 s7 s8 s9 s10 s11 s12 s13 s14 s15 s16 s17 s18 s19 s20 s21 s22 s23 s24 s25 s26 s27 s28 s29 s30 s31 s32 s33 s34 s35 s36 s37 s38 s39 s40 s41 s42 s43 s44 s45 s46 s47 s48 s49 s50 s51 s52 s53 s54 s55 s56 s57 s58 s59 s60 s61 s62 s63 s64 s65 s66 s67 s68 s69 s70 s71 s72 s73 s74 s75 s76 s77 s78 s79 s80 s81 s82 s83 s84 s85 s86 s87 s88 s89 s90 s91 s92 s93 s94 s95 s96 s97 s98 s99 s100 s101 s102 s103 s104 s105 s106 s107 s108 s109 s110 s111 s112 s113 s114 s115 s116 s117 s118 s119 s120 s121 s122 s123 s124 s125 s126 s127 s128 s129 s130 s131 s132 s133 s134 s135 s136 s137 s138 s139 s140 s141 s142 s143 s144 s145 s146 s147 s148 s149 s150 s151 s152 s153 s154 s155 s156 s157 s158 s159 s160 s161 s162 s163 s164 s165 s166 s167 s168 s169 s170 s171 s172 s173 s174 s175 s176 s177 s178 s179 s180 s181 s182 s183 s184 s185 s186 s187 s188 s189 s190 s191 s192 s193 s194 s195 s196 s197 s198 s199 s200 s201 s202 s203 s204 s205 s206 s207 s208 s209 s210 s211 s212 s213 s214 s215 s216 s217 s218 s219 s220 s221 s222 s223 s224 s225 s226 s227 s228 s229 s230 s231 s232 s233 s234 s235 s236 s237 s238 s239 s240 s241 s242 s243 s244 s245 s246 s247 s248 s249 s250 s251 s252 s253 s254 s255 s256 s257 s258 s259 s260 s261 s262 s263 s264 s265 s266:Value)
 (hexit:∀ (xa:Option Addr) (xc:Nat) (u42 u43 u44 u45 u46 u47 u48:Value) (w':World),w'.ownsRow B 5 1 (.slice xa (n0+1+zN n0) xc) (n0+1+zN n0) (Nm.bys (padTo l))∧Below B w w'->Q0 (.exit 2) ⟨(s0::s1::s2::.slice xa (n0+1+zN n0) xc::s4::s5::s6::s7::s8::s9::s10::s11::s12::s13::s14::s15::s16::s17::s18::s19::s20::s21::s22::s23::s24::s25::s26::s27::s28::s29::s30::s31::s32::s33::s34::s35::s36::s37::s38::s39::s40::s41::u42::u43::u44::u45::u46::u47::u48::s49::s50::s51::s52::s53::s54::s55::s56::s57::s58::s59::s60::s61::s62::s63::s64::s65::s66::s67::s68::s69::s70::s71::s72::s73::s74::s75::s76::s77::s78::s79::s80::s81::s82::s83::s84::s85::s86::s87::s88::s89::s90::s91::s92::s93::s94::s95::s96::s97::s98::s99::s100::s101::s102::s103::s104::s105::s106::s107::s108::s109::s110::s111::s112::s113::s114::s115::s116::s117::s118::s119::s120::s121::s122::s123::s124::s125::s126::s127::s128::s129::s130::s131::s132::s133::s134::s135::s136::s137::s138::s139::s140::s141::s142::s143::s144::s145::s146::s147::s148::s149::s150::s151::s152::s153::s154::s155::s156::s157::s158::s159::s160::s161::s162::s163::s164::s165::s166::s167::s168::s169::s170::s171::s172::s173::s174::s175::s176::s177::s178::s179::s180::s181::s182::s183::s184::s185::s186::s187::s188::s189::s190::s191::s192::s193::s194::s195::s196::s197::s198::s199::s200::s201::s202::s203::s204::s205::s206::s207::s208::s209::s210::s211::s212::s213::s214::s215::s216::s217::s218::s219::s220::s221::s222::s223::s224::s225::s226::s227::s228::s229::s230::s231::s232::s233::s234::s235::s236::s237::s238::s239::s240::s241::s242::s243::s244::s245::s246::s247::s248::s249::s250::s251::s252::s253::s254::s255::s256::s257::s258::s259::s260::s261::s262::s263::s264::s265::s266::[]).toArray,[]⟩ w'):
 Code.wp Tryz.prog (Code.loop shL2) Q0 ⟨(s0::s1::s2::.slice xa0 (n0+1) xc0::s4::s5::s6::s7::s8::s9::s10::s11::s12::s13::s14::s15::s16::s17::s18::s19::s20::s21::s22::s23::s24::s25::s26::s27::s28::s29::s30::s31::s32::s33::s34::s35::s36::s37::s38::s39::s40::s41::s42::s43::s44::s45::s46::s47::s48::s49::s50::s51::s52::s53::s54::s55::s56::s57::s58::s59::s60::s61::s62::s63::s64::s65::s66::s67::s68::s69::s70::s71::s72::s73::s74::s75::s76::s77::s78::s79::s80::s81::s82::s83::s84::s85::s86::s87::s88::s89::s90::s91::s92::s93::s94::s95::s96::s97::s98::s99::s100::s101::s102::s103::s104::s105::s106::s107::s108::s109::s110::s111::s112::s113::s114::s115::s116::s117::s118::s119::s120::s121::s122::s123::s124::s125::s126::s127::s128::s129::s130::s131::s132::s133::s134::s135::s136::s137::s138::s139::s140::s141::s142::s143::s144::s145::s146::s147::s148::s149::s150::s151::s152::s153::s154::s155::s156::s157::s158::s159::s160::s161::s162::s163::s164::s165::s166::s167::s168::s169::s170::s171::s172::s173::s174::s175::s176::s177::s178::s179::s180::s181::s182::s183::s184::s185::s186::s187::s188::s189::s190::s191::s192::s193::s194::s195::s196::s197::s198::s199::s200::s201::s202::s203::s204::s205::s206::s207::s208::s209::s210::s211::s212::s213::s214::s215::s216::s217::s218::s219::s220::s221::s222::s223::s224::s225::s226::s227::s228::s229::s230::s231::s232::s233::s234::s235::s236::s237::s238::s239::s240::s241::s242::s243::s244::s245::s246::s247::s248::s249::s250::s251::s252::s253::s254::s255::s256::s257::s258::s259::s260::s261::s262::s263::s264::s265::s266::[]).toArray,[]⟩ w:=by
 obtain⟨j0,hj,k0,k1,k2⟩:=info_parts Tryz.infoBy
 conv=>arg 2;arg 1;whnf
 go_loopw [3] (fun u wr=>∃ z:Nat,z<=zN n0∧wr.ownsRow B 5 1 u (n0+1+z) (Nm.bys (l++[128]++List.replicate z 0))∧Below B w wr) (fun u _=>n0+65-slLenS u)
 case atStart=>exact⟨0,Nat.zero_le _,by simpa using hro,Below.refl _ _⟩
 case round=>
  obtain⟨z,hzz,hown,hbel⟩:=hrel;obtain⟨xa,xc,rfl⟩:=own_sl hown;have hz64:zN n0<64:=Nat.mod_lt _ (by decide);have hBr:B<=wr.heap.size:=Nat.le_trans hB hbel.size;clear hro
  by_cases hlt:z<zN n0
  ·have hne:=zN_not hlt;have hne':((((n0+1+z:Nat):Int) % 64) != 56)=true:=by simp;omega
   clear hexit;go_wp2_with (at_builtin;refine wpList_append_own _ rfl (.tmp 46) (.tmp 47) 26 rfl B 5 j0 (.int .u8 0) 1 1 Tryz.underlying26 hj k0 k1 k2 rfl (by decide) _ _ _ rfl (hown.alloc _) ⟨wr.heap.size,0,none⟩ 1 1 [.int .u8 0] rfl rfl (cell_one_new _ _ _) (Nm.one_cell _ rfl) (by unfold maxLen;omega) (by omega) (by simp;omega) ?_;intro vb wb hown8 hgrow8 hnl8;clear hnl8)
   have hrow:∀ q,Value.ownBlock (.slice xa (n0+1+z) xc)=some q->B<=q:=fun q hq=>(hown.lt q hq).1
   have hB9:Below B w wb:=(hbel.alloc hBr _).grown hgrow8 (by rw [World.size_alloc];omega) hrow
   have hownN:wb.ownsRow B 5 1 vb (n0+1+(z+1)) (Nm.bys (l++[128]++List.replicate (z+1) 0)):=by
    have:Nm.bys (l++[128]++List.replicate (z+1) 0)=Nm.bys (l++[128]++List.replicate z 0)++[.int .u8 0]:=by rw [rep_snoc,<- List.append_assoc,Nm.bys_append];rfl
    rw [this];exact hown8
   obtain⟨za2,zc2,rfl⟩:=own_sl hown8;clear hgrow8 hown hbel hown8 hrow;go_roundw
   case rel=>exact⟨z+1,by omega,hownN,hB9⟩
   case measure=>simp only [slLenS];omega
  ·obtain rfl:z=zN n0:=by omega
   have hend:=zN_end n0;have hend':((((n0+1+zN n0:Nat):Int) % 64) != 56)=false:=by simp;omega
   have hown9:wr.ownsRow B 5 1 (.slice xa (n0+1+zN n0) xc) (n0+1+zN n0) (Nm.bys (padTo l)):=by
    rw [padTo_eq,<- hn0.out];exact hown
   clear hown hend;go_wp2
   all_goals exact⟨hown9,hbel⟩
set_option maxRecDepth 1000000 in
set_option maxHeartbeats 16000000 in
theorem sha_len(B:Nat)(l pl:List UInt8)(a:Option Addr)(cap n0:Nat)(hl:l.length<=3000000)(hn0:n0<=4000000)(Q0:Exit->Act->World->Prop)(w:World)(hB:B<=w.heap.size)(xa0:Option Addr)(xc0:Nat)(hro:w.ownsRow B 5 1 (.slice xa0 n0 xc0) n0 (Nm.bys pl))
 (s1 s2 s4 s6 s7 s8 s9 s10 s11 s12 s13 s14 s15 s16 s17 s18 s19 s20 s21 s22 s23 s24 s25 s26 s27 s28 s29 s30 s31 s32 s33 s34 s35 s36 s37 s38 s39 s40 s41 s42 s43 s44 s45 s46 s47 s48 s49 s50 s51 s52 s53 s54 s55 s56 s57 s58 s59 s60 s61 s62 s63 s64 s65 s66 s67 s68 s69 s70 s71 s72 s73 s74 s75 s76 s77 s78 s79 s80 s81 s82 s83 s84 s85 s86 s87 s88 s89 s90 s91 s92 s93 s94 s95 s96 s97 s98 s99 s100 s101 s102 s103 s104 s105 s106 s107 s108 s109 s110 s111 s112 s113 s114 s115 s116 s117 s118 s119 s120 s121 s122 s123 s124 s125 s126 s127 s128 s129 s130 s131 s132 s133 s134 s135 s136 s137 s138 s139 s140 s141 s142 s143 s144 s145 s146 s147 s148 s149 s150 s151 s152 s153 s154 s155 s156 s157 s158 s159 s160 s161 s162 s163 s164 s165 s166 s167 s168 s169 s170 s171 s172 s173 s174 s175 s176 s177 s178 s179 s180 s181 s182 s183 s184 s185 s186 s187 s188 s189 s190 s191 s192 s193 s194 s195 s196 s197 s198 s199 s200 s201 s202 s203 s204 s205 s206 s207 s208 s209 s210 s211 s212 s213 s214 s215 s216 s217 s218 s219 s220 s221 s222 s223 s224 s225 s226 s227 s228 s229 s230 s231 s232 s233 s234 s235 s236 s237 s238 s239 s240 s241 s242 s243 s244 s245 s246 s247 s248 s249 s250 s251 s252 s253 s254 s255 s256 s257 s258 s259 s260 s261 s262 s263 s264 s265 s266:Value)
 (hexit:∀ (xa:Option Addr) (xc:Nat) (u5 u49 u50 u51 u52 u53 u54 u55 u56 u57 u58 u59 u60 u61 u62 u63:Value) (w':World),w'.ownsRow B 5 1 (.slice xa (n0+8) xc) (n0+8) (Nm.bys (pl++lenL l.length))∧Below B w w'->Q0 (.exit 4) ⟨(.slice a l.length cap::s1::s2::.slice xa (n0+8) xc::s4::u5::s6::s7::s8::s9::s10::s11::s12::s13::s14::s15::s16::s17::s18::s19::s20::s21::s22::s23::s24::s25::s26::s27::s28::s29::s30::s31::s32::s33::s34::s35::s36::s37::s38::s39::s40::s41::s42::s43::s44::s45::s46::s47::s48::u49::u50::u51::u52::u53::u54::u55::u56::u57::u58::u59::u60::u61::u62::u63::s64::s65::s66::s67::s68::s69::s70::s71::s72::s73::s74::s75::s76::s77::s78::s79::s80::s81::s82::s83::s84::s85::s86::s87::s88::s89::s90::s91::s92::s93::s94::s95::s96::s97::s98::s99::s100::s101::s102::s103::s104::s105::s106::s107::s108::s109::s110::s111::s112::s113::s114::s115::s116::s117::s118::s119::s120::s121::s122::s123::s124::s125::s126::s127::s128::s129::s130::s131::s132::s133::s134::s135::s136::s137::s138::s139::s140::s141::s142::s143::s144::s145::s146::s147::s148::s149::s150::s151::s152::s153::s154::s155::s156::s157::s158::s159::s160::s161::s162::s163::s164::s165::s166::s167::s168::s169::s170::s171::s172::s173::s174::s175::s176::s177::s178::s179::s180::s181::s182::s183::s184::s185::s186::s187::s188::s189::s190::s191::s192::s193::s194::s195::s196::s197::s198::s199::s200::s201::s202::s203::s204::s205::s206::s207::s208::s209::s210::s211::s212::s213::s214::s215::s216::s217::s218::s219::s220::s221::s222::s223::s224::s225::s226::s227::s228::s229::s230::s231::s232::s233::s234::s235::s236::s237::s238::s239::s240::s241::s242::s243::s244::s245::s246::s247::s248::s249::s250::s251::s252::s253::s254::s255::s256::s257::s258::s259::s260::s261::s262::s263::s264::s265::s266::[]).toArray,[]⟩ w'):
 Code.wp Tryz.prog (Code.loop shL3) Q0 ⟨(.slice a l.length cap::s1::s2::.slice xa0 n0 xc0::s4::.int .i64 7::s6::s7::s8::s9::s10::s11::s12::s13::s14::s15::s16::s17::s18::s19::s20::s21::s22::s23::s24::s25::s26::s27::s28::s29::s30::s31::s32::s33::s34::s35::s36::s37::s38::s39::s40::s41::s42::s43::s44::s45::s46::s47::s48::s49::s50::s51::s52::s53::s54::s55::s56::s57::s58::s59::s60::s61::s62::s63::s64::s65::s66::s67::s68::s69::s70::s71::s72::s73::s74::s75::s76::s77::s78::s79::s80::s81::s82::s83::s84::s85::s86::s87::s88::s89::s90::s91::s92::s93::s94::s95::s96::s97::s98::s99::s100::s101::s102::s103::s104::s105::s106::s107::s108::s109::s110::s111::s112::s113::s114::s115::s116::s117::s118::s119::s120::s121::s122::s123::s124::s125::s126::s127::s128::s129::s130::s131::s132::s133::s134::s135::s136::s137::s138::s139::s140::s141::s142::s143::s144::s145::s146::s147::s148::s149::s150::s151::s152::s153::s154::s155::s156::s157::s158::s159::s160::s161::s162::s163::s164::s165::s166::s167::s168::s169::s170::s171::s172::s173::s174::s175::s176::s177::s178::s179::s180::s181::s182::s183::s184::s185::s186::s187::s188::s189::s190::s191::s192::s193::s194::s195::s196::s197::s198::s199::s200::s201::s202::s203::s204::s205::s206::s207::s208::s209::s210::s211::s212::s213::s214::s215::s216::s217::s218::s219::s220::s221::s222::s223::s224::s225::s226::s227::s228::s229::s230::s231::s232::s233::s234::s235::s236::s237::s238::s239::s240::s241::s242::s243::s244::s245::s246::s247::s248::s249::s250::s251::s252::s253::s254::s255::s256::s257::s258::s259::s260::s261::s262::s263::s264::s265::s266::[]).toArray,[]⟩ w:=by
 obtain⟨j0,hj,k0,k1,k2⟩:=info_parts Tryz.infoBy
 conv=>arg 2;arg 1;whnf
 go_loopw [3,5] (fun u i wr=>∃ k:Nat,k<=8∧i=.int .i64 (7-(k:Int))∧wr.ownsRow B 5 1 u (n0+k) (Nm.bys (pl++(lenL l.length).take k))∧Below B w wr) (fun _ i _=>(intOf i+1).toNat)
 case atStart=>exact⟨0,by omega,rfl,by simpa using hro,Below.refl _ _⟩
 case round=>
  clear hro;obtain⟨k,hk8,rfl,hown,hbel⟩:=hrel;obtain⟨xa,xc,rfl⟩:=own_sl hown;have hBr:B<=wr.heap.size:=Nat.le_trans hB hbel.size
  by_cases hlt:k<8
  ·obtain⟨i,hi⟩:∃ i:Nat,(7:Int)-(k:Int)=(i:Int):=⟨7-k,by omega⟩;have hi7:i<=7:=by omega
   rw [hi];have i1:(0:Int)<=(i:Int):=by omega
   have i2:(i:Int)<=7:=by omega
   have HI:=Nm.hide hi;clear hi hexit
   have HT:=Nm.hide (show Nm.bys (pl++(lenL l.length).take (k+1))=Nm.bys (pl++(lenL l.length).take k)++[.int .u8 (8*(l.length:Int) / 2 ^ (8*i) % 256)] by
    have h7:7-k=i:=by have:=HI.out;omega
    rw [lenL_take hlt,h7,<- List.append_assoc,Nm.bys_append]
    congr 1)
   go_wp2_with (at_builtin;refine wpList_append_own _ rfl (.tmp 53) (.tmp 62) 26 rfl B 5 j0 (.int .u8 0) 1 1 Tryz.underlying26 hj k0 k1 k2 rfl (by decide) _ _ _ rfl (hown.alloc _) ⟨wr.heap.size,0,none⟩ 1 1 [.int .u8 (8*(l.length:Int) / 2 ^ (8*i) % 256)] rfl rfl (cell_one_new _ _ _) (Nm.one_cell _ rfl) (by unfold maxLen;omega) (by omega) (by simp;omega) ?_;intro vb wb hown8 hgrow8 hnl8;clear hnl8)
   rw [<- HT.out] at hown8;have hrow:∀ q,Value.ownBlock (.slice xa (n0+k) xc)=some q->B<=q:=fun q hq=>(hown.lt q hq).1
   have hB9:Below B w wb:=(hbel.alloc hBr _).grown hgrow8 (by rw [World.size_alloc];omega) hrow;obtain⟨za2,zc2,rfl⟩:=own_sl hown8;clear hgrow8 hown hbel hrow;go_roundw
   case rel=>exact⟨k+1,by omega,by have:=HI.out;go_num,hown8,hB9⟩
   case measure=>simp [intOf]
  ·obtain rfl:k=8:=by omega
   rw [List.take_of_length_le (by rw [lenL_len];omega)] at hown;rw [show(7:Int)-((8:Nat):Int)= -1 from rfl];go_wp2
   all_goals exact⟨hown,hbel⟩
end Go.Proofs.YtcihkbojmbfmmaaGreatDoor
