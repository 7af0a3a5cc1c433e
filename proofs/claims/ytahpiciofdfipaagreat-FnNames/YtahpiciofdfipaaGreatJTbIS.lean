import Derived.Test.YtahpiciofdfipaaGreatJOwnT
import Derived.Deep.RegionHeld3
import Derived.Maps.AppendAt
import Derived.BigRegion
import Derived.RegionTactic
import Derived.Test.YtahpiciofdfipaaGreatJCmpM
import Derived.Deep.QuietTactic
import Derived.BigQuiet
namespace Go.Proofs.YtahpiciofdfipaaGreat
open Go.RowKit
set_option linter.unusedVariables false
theorem Tryz.infoRowS:(Tryz.prog.info? 213).map (fun i=>(i.zero,i.size,i.bytes))=some (some (.agg #[.string ByteArray.empty,.string ByteArray.empty]),2,32):=by kernel_rfl
theorem shape_ofS{w:World}{b:Nat}{cs:Array Value}{T:TypeId}(h:Blk w b cs T):w.shape? b=some (T,cs.size):=by
 unfold Blk at h;simp [World.shape?,h]
def InsS(B:Nat)(v:Value)(n i:Nat)(xs:List Value)(x0 x1:Value)(w:World)(e:Ending)(w':World):Prop:=
 ∃ u,e=.returned u∧w'.ownsRow B 213 2 u (n+1) (xs.take (i*2)++[x0,x1]++xs.drop (i*2))∧w.grownBy w' v.ownBlock∧(u.ownBlock=v.ownBlock∨∀ g,u.ownBlock=some g->w.heap.size<=g)
set_option maxRecDepth 100000 in
set_option maxHeartbeats 3200000 in
theorem insertS_any(v:Value)(n i:Nat)(xs:List Value)(x0 x1:Value)(vb vc B:Nat)(w:World)(h:w.ownsRow B 213 2 v n xs)(hi:i<=n)(hv:Blk w vb #[x0,x1] 213)(hvb:v.ownBlock≠some vb)
 (h1:∀ u∈xs,u.oneCell'=true) (h0:x0.oneCell'=true) (h0':x1.oneCell'=true) (hn:n<=1000000) (hB:B<=w.heap.size):
 Calls Tryz.prog 157 #[v,.int .i64 (i:Int),.slice (some ⟨vb,0,none⟩) 1 vc] w (InsS B v n i xs x0 x1 w):=by
 obtain⟨i0,hi0,hz0,hz1,hz2⟩:=info_parts Tryz.infoRowS;have hxl:xs.length=n*2:=h.1
 have hcv:∀ (j:Nat) (u:Value),[x0,x1][j]? =some u->w.cell? ((⟨vb,0,none⟩:Addr).add j)=some u:=by
  intro j u hj;rw [Nm.addr_add,Nat.zero_add,blk_cell hv j];simpa using hj
 have hone:∀ u∈[x0,x1],u.oneCell'=true:=by
  intro u hu;simp at hu
  rcases hu with rfl|rfl
  ·exact h0
  ·exact h0'
 by_cases hin:i=n
 ·subst hin
  have hHX:Hid (xs.take (i*2)++[x0,x1]++xs.drop (i*2)=xs++[x0,x1]):=by
   show _=_
   rw [List.take_of_length_le (by omega),List.drop_of_length_le (by omega),List.append_nil]
  rcases h.2 with⟨rfl,hn0⟩|⟨g,cap,cur,rfl,hbg,hg,hnc,hcm,hcs,htk⟩
  ·have hi0':i=0:=hn0;subst hi0';have hcast:((0:Nat):Int)=0:=rfl;rw [hcast];go_enter Tryz.func157,Tryz.ntmps157;go_wp2_with (at_builtin;refine wpList_append_own_at _ rfl (.tmp 23) (.tmp 24) 208 rfl B 213 i0 _ 2 32 Tryz.underlying208 hi0 hz0 hz1 hz2 rfl (by decide) _ _ _ rfl h ⟨vb,0,none⟩ 1 vc [x0,x1] rfl rfl hcv hone (by unfold maxLen;omega) (by omega) hB ?_;intro va wa ho9 hg9 hnl9 hat9)
   go_ret;exact⟨va,rfl,by rw [hHX.out];exact ho9,hg9,by rcases hat9 with h|h;exact .inl h;right;intro g e;rw [h] at e;simp at e;omega⟩
  ·unfold maxLen at hcm
   by_cases hci:cap=i
   all_goals
    go_enter Tryz.func157,Tryz.ntmps157;go_wp2_with (at_builtin;refine wpList_append_own_at _ rfl (.tmp 23) (.tmp 24) 208 rfl B 213 i0 _ 2 32 Tryz.underlying208 hi0 hz0 hz1 hz2 rfl (by decide) _ _ _ rfl h ⟨vb,0,none⟩ 1 vc [x0,x1] rfl rfl hcv hone (by unfold maxLen;omega) (by omega) hB ?_;intro va wa ho9 hg9 hnl9 hat9)
    go_ret;exact⟨va,rfl,by rw [hHX.out];exact ho9,hg9,by rcases hat9 with h|h;exact .inl h;right;intro g e;rw [h] at e;simp at e;omega⟩
 ·have hlt:i<n:=by omega
  rcases h.2 with⟨rfl,hn0⟩|⟨g,cap,cur,rfl,hbg,hg,hnc,hcm,hcs,htk⟩
  ·omega
  ·have hkg:Blk w g cur 213:=hg;have hgv:vb≠g:=fun e=>hvb (by rw [e];rfl)
   have hsz2:(Tryz.prog.info? 213).map (·.size)=some 2:=by rw [hi0];simp [hz1]
   have hsrcx:∀ (W:World),Blk W g cur 213->∀ (j:Nat) (u:Value),(xs.drop (i*2))[j]? =some u->W.cell? ((⟨g,i*2,none⟩:Addr).add j)=some u:=by
    intro W hW j u hj;rw [Nm.addr_add,blk_cell hW];rw [List.getElem?_drop] at hj;have hjl:=(List.getElem?_eq_some_iff.1 hj).1;rw [<- htk,List.getElem?_take_of_lt (by omega)] at hj;simpa using hj
   have hdl:(xs.drop (i*2)).length=(n-i)*2:=by rw [List.length_drop,hxl];omega
   have h1d:∀ u∈xs.drop (i*2),u.oneCell'=true:=fun u hu=>h1 u (List.mem_of_mem_drop hu)
   unfold maxLen at hcm;have z1:¬((i:Int)=(n:Int)):=by omega
   have z2:(0:Int)<=(i:Int):=by omega
   have z3:(i:Int)<=(n:Int):=by omega
   have z4:¬cap=i:=by omega
   have z6:((i:Int)+1).toNat=i+1:=by omega
   by_cases hroom:n+1<=cap
   ·have hov:∀ lb cb,(callFunc 174 #[.slice (some ⟨vb,0,none⟩) 1 vc,.slice (some ⟨g,(i+1)*2,none⟩) lb cb]).run Tryz.prog w=.ok (.value (.bool false)) w:=fun lb cb=>by
     rw [run_callFunc_extern Tryz.func174 (by kernel_rfl) (by kernel_rfl) (by kernel_rfl) (e:=Extern.SlicesOverlaps.overlaps #[208,208] #[4]) (by kernel_rfl),
      Lib.run_overlaps_apart w 208 4 213 Tryz.underlying208 2 (fun w=>by rw [sizeOf];simp [typeInfo,hi0,hz1]) ⟨vb,0,none⟩ ⟨g,(i+1)*2,none⟩ 1 vc lb cb hgv 213 213 2 cur.size (shape_ofS hv) (shape_ofS hkg) (by omega) (frozen_of_row w vb 0 _ _ hv) (frozen_of_row w vb 2 _ _ hv)]
     rfl
    have z5:¬cap=i+1:=by omega
    obtain⟨c1,hc1⟩:∃ c1,c1=cur.toList.take ((i+1)*2)++xs.drop (i*2)++cur.toList.drop ((i+1)*2+(xs.drop (i*2)).length):=⟨_,rfl⟩;obtain⟨hl1,hall⟩:=ins_room x0 x1 (by rw [Array.length_toList,hcs]) htk hlt hroom c1 hc1;obtain⟨c2,hc2⟩:∃ c2,c2=c1.take (i*2)++[x0,x1]++c1.drop (i*2+[x0,x1].length):=⟨_,rfl⟩;obtain⟨hl2,hres⟩:=hall c2 hc2
    have hcp1:∀ ty dc sc,(Builtin.copy_ #[208,208] ty #[.slice (some ⟨g,(i+1)*2,none⟩) (n-i) dc,.slice (some ⟨g,i*2,none⟩) (n+1-i) sc]).run Tryz.prog w.drew=.ok (goInt (Nat.min (n+1-i) (n-i))) (w.drew.setRow g c1.toArray):=fun ty dc sc=>by
     rw [hc1];exact run_copy_rowK w.drew _ _ ty 213 g ((i+1)*2) _ dc ⟨g,i*2,none⟩ _ sc cur 213 (xs.drop (i*2)) 2 Tryz.underlying208 hsz2 hkg (by rw [hdl];simp only [Nat.min_def];split<;>omega) (hsrcx _ hkg) (by rw [hdl,hcs];omega) h1d
    have hk1:Blk (w.drew.setRow g c1.toArray) g c1.toArray 213:=setRow_blk (blk_drew hkg) _
    have hcp2:∀ ty dc,(Builtin.copy_ #[208,208] ty #[.slice (some ⟨g,i*2,none⟩) (n+1-i) dc,.slice (some ⟨vb,0,none⟩) 1 vc]).run Tryz.prog (w.drew.setRow g c1.toArray)=.ok (goInt (Nat.min 1 (n+1-i))) ((w.drew.setRow g c1.toArray).setRow g c2.toArray):=fun ty dc=>by
     rw [hc2]
     exact run_copy_rowK (w.drew.setRow g c1.toArray) _ _ ty 213 g (i*2) _ dc ⟨vb,0,none⟩ 1 vc c1.toArray 213 [x0,x1] 2 Tryz.underlying208 hsz2 hk1 (by simp only [Nat.min_def,List.length_cons,List.length_nil];split<;>omega) (fun j u hj=>by
      rw [World.cell?_of_block (w:=w.drew) (by rw [Nm.addr_add];exact setRow_other w.drew g vb _ hgv)]
      exact hcv j u hj) (by simp only [List.size_toArray,hl1,List.length_cons,List.length_nil];omega) hone
    have X:=Nm.hide (And.intro (own_of_blk (n:=n+1) (cap:=cap) (s:=2) (setRow_blk hk1 c2.toArray) hbg (by omega) hcm (by simp [hl2]) (show c2.toArray.toList.take ((n+1)*2)=xs.take (i*2)++[x0,x1]++xs.drop (i*2) from hres)) (hgr_step (g:=g) ((⟨rfl,rfl,rfl,Nat.le_refl _,fun _ _ _=>rfl⟩:w.grownBy w.drew (some g))) (hgr_step (setRow_grown w.drew g c1.toArray) (setRow_grown _ g c2.toArray))));clear hc1 hc2 hall hres hl1 hl2 hsrcx htk;go_enter Tryz.func157,Tryz.ntmps157;go_wp2;go_region
    all_goals
     go_wp2;go_ret;exact⟨.slice (some ⟨g,0,none⟩) (n+1) cap,rfl,X.out.1,X.out.2,.inl rfl⟩
   ·have hcn:cap=n:=by omega
    obtain⟨GC,hGC⟩:∃ GC,GC=grownCap w (i+(n+1-i)) cap 213:=⟨_,rfl⟩;have hge:n+1<=GC:=by rw [hGC];have:=grownCap_ge w (i+(n+1-i)) cap 213;omega
    have hgm:GC<=maxLen:=by rw [hGC];exact grownCap_le_maxLen w _ cap 213 (by unfold maxLen;omega)
    obtain⟨Z,hZ⟩:∃ Z:List Value,Z=(Builtin.zeroCells (Value.agg #[.string ByteArray.empty,.string ByteArray.empty]).cells (n+1-i)++Builtin.zeroCells (Value.agg #[.string ByteArray.empty,.string ByteArray.empty]).cells (GC-(n+1))).toList:=⟨_,rfl⟩
    have hzl:(xs.take (i*2)++Z).length=GC*2:=by
     have hzs:(Value.agg #[.string ByteArray.empty,.string ByteArray.empty]).cells.size=2:=rfl;have e1:(Builtin.zeroCells (Value.agg #[.string ByteArray.empty,.string ByteArray.empty]).cells (n+1-i)).toList.length=(n+1-i)*2:=by rw [Array.length_toList,size_zeroCells,hzs]
     have e2:(Builtin.zeroCells (Value.agg #[.string ByteArray.empty,.string ByteArray.empty]).cells (GC-(n+1))).toList.length=(GC-(n+1))*2:=by rw [Array.length_toList,size_zeroCells,hzs]
     rw [hZ,List.length_append,List.length_take,Array.toList_append,List.length_append,e1,e2,hxl];omega
    have hap:∀ ty,(Builtin.append_ #[208,3] ty #[.slice (some ⟨g,0,none⟩) i cap,.int .i64 (((n:Int)+1-(i:Int)))]).run Tryz.prog w=.ok (.slice (some ⟨w.heap.size,0,none⟩) (n+1) GC) (w.drew.alloc (.cells (xs.take (i*2)++Z).toArray 213)):=by
     intro ty
     have hfc:(Builtin.firstCells i0.size i (.slice (some ⟨g,0,none⟩) i cap)).run Tryz.prog w.drew=.ok (xs.take (i*2)).toArray w.drew:=by
      have hl:=run_loadCells_list (P:=Tryz.prog) w.drew ⟨g,0,none⟩ (xs.take (i*2)) (fun j u hj=>by
       rw [Nm.addr_add,blk_cell (blk_drew hkg),Nat.zero_add];rw [List.getElem?_take] at hj
       split at hj
       ·rename_i hji;rw [<- htk,List.getElem?_take_of_lt (by omega)] at hj;simpa using hj
       ·cases hj)
      rw [List.length_take,hxl,Nat.min_eq_left (by omega)] at hl;simp [Builtin.firstCells,hz1,hl]
     have hr:=Lib.run_append_grow_zeros (P:=Tryz.prog) w 208 3 ty 213 i0 _ .i64 .i64 Tryz.underlying208 Tryz.underlying3 hi0 hz0 (some ⟨g,0,none⟩) i cap (xs.take (i*2)) hfc (n+1-i) (by omega) (by omega) (by omega) (by omega) (by rw [hz2];omega) (by rw [hz2];exact growslice_fits (by omega) (by omega));rw [show((n+1-i:Nat):Int)=(n:Int)+1-(i:Int) by omega] at hr;rw [hr,<- hGC,hZ];congr 1
     ·rw [show i+(n+1-i)=n+1 by omega]
     ·rw [show i+(n+1-i)=n+1 by omega];congr 2;rw [Array.append_assoc];apply Array.toList_inj.1;simp
    have hkW:Blk (w.drew.alloc (.cells (xs.take (i*2)++Z).toArray 213)) w.heap.size (xs.take (i*2)++Z).toArray 213:=blk_new w.drew _ _;have hbW:Below w.heap.size w (w.drew.alloc (.cells (xs.take (i*2)++Z).toArray 213)):=(Below.refl _ _).drew.alloc (Nat.le_refl _) _;obtain⟨c1,hc1⟩:∃ c1,c1=(xs.take (i*2)++Z).take (i*2)++[x0,x1]++(xs.take (i*2)++Z).drop (i*2+[x0,x1].length):=⟨_,rfl⟩;obtain⟨hl1,hall⟩:=ins_grow x0 x1 hxl hlt hge hzl c1 hc1;obtain⟨c2,hc2⟩:∃ c2,c2=c1.take ((i+1)*2)++xs.drop (i*2)++c1.drop ((i+1)*2+(xs.drop (i*2)).length):=⟨_,rfl⟩;obtain⟨hl2,hres⟩:=hall c2 hc2;generalize hW0:w.drew.alloc (.cells (xs.take (i*2)++Z).toArray 213)=W0 at*;have hgW0:Blk W0 g cur 213:=blk_below hkg hbW;have hvW0:Blk W0 vb #[x0,x1] 213:=blk_below hv hbW;have hglt:=blk_lt hkg;have hvlt:=blk_lt hv
    have hcp1:∀ ty dc,(Builtin.copy_ #[208,208] ty #[.slice (some ⟨w.heap.size,i*2,none⟩) (n+1-i) dc,.slice (some ⟨vb,0,none⟩) 1 vc]).run Tryz.prog W0=.ok (goInt (Nat.min 1 (n+1-i))) (W0.setRow w.heap.size c1.toArray):=fun ty dc=>by
     rw [hc1]
     exact run_copy_rowK W0 _ _ ty 213 w.heap.size (i*2) _ dc ⟨vb,0,none⟩ 1 vc _ 213 [x0,x1] 2 Tryz.underlying208 hsz2 hkW (by simp only [Nat.min_def,List.length_cons,List.length_nil];split<;>omega) (fun j u hj=>by
      rw [Nm.addr_add,blk_cell hvW0,Nat.zero_add]
      simpa using hj) (by simp only [List.size_toArray,hzl,List.length_cons,List.length_nil];omega) hone
    have hk1:Blk (W0.setRow w.heap.size c1.toArray) w.heap.size c1.toArray 213:=setRow_blk hkW _
    have hg1:Blk (W0.setRow w.heap.size c1.toArray).drew g cur 213:=by
     unfold Blk
     show(W0.setRow w.heap.size c1.toArray).heap[g]? =_
     rw [setRow_other W0 _ g _ (by omega)];exact hgW0
    have hcp2:∀ ty dc sc,(Builtin.copy_ #[208,208] ty #[.slice (some ⟨w.heap.size,(i+1)*2,none⟩) (n-i) dc,.slice (some ⟨g,i*2,none⟩) (n-i) sc]).run Tryz.prog (W0.setRow w.heap.size c1.toArray).drew=.ok (goInt (Nat.min (n-i) (n-i))) ((W0.setRow w.heap.size c1.toArray).drew.setRow w.heap.size c2.toArray):=fun ty dc sc=>by
     rw [hc2];exact run_copy_rowK (W0.setRow w.heap.size c1.toArray).drew _ _ ty 213 w.heap.size ((i+1)*2) _ dc ⟨g,i*2,none⟩ _ sc c1.toArray 213 (xs.drop (i*2)) 2 Tryz.underlying208 hsz2 (blk_drew hk1) (by rw [hdl];simp only [Nat.min_def];split<;>omega) (hsrcx _ hg1) (by rw [hdl];simp only [List.size_toArray,hl1];omega) h1d
    have X:=Nm.hide (And.intro (own_of_blk (B:=B) (n:=n+1) (cap:=GC) (s:=2) (setRow_blk (blk_drew hk1) c2.toArray) hB hge hgm (by simp [hl2]) (show c2.toArray.toList.take ((n+1)*2)=xs.take (i*2)++[x0,x1]++xs.drop (i*2) from hres)) (show w.grownBy ((W0.setRow w.heap.size c1.toArray).drew.setRow w.heap.size c2.toArray) (some g) from by
     refine⟨hbW.os,hbW.tape,hbW.output,?_,fun k hk hne=>?_⟩
     ·rw [setRow_size];show w.heap.size<=(W0.setRow w.heap.size c1.toArray).heap.size
      rw [setRow_size];exact hbW.size
     ·rw [setRow_other _ _ k _ (by omega)]
      show(W0.setRow w.heap.size c1.toArray).heap[k]? =_
      rw [setRow_other _ _ k _ (by omega)]
      exact hbW.block k hk))
    have y1:¬GC=i:=by omega
    have y2:¬GC=i+1:=by omega
    have y3:¬n+1<=cap:=by omega
    have y4:(cap:Int)<(n:Int)+1:=by omega
    have y5:IntKind.i64.wrap ((i:Int)+1)=(i:Int)+1:=by rw [IntKind.wrap_i64];omega
    have y6:(0:Int)<=(i:Int)+1:=by omega
    have y7:(i:Int)+1<=(n:Int)+1:=by omega
    unfold maxLen at hgm;clear hc1 hc2 hall hres hl1 hl2 hsrcx htk hGC hZ hzl hW0 hg1 hk1 hkW hbW hgW0 hvW0 hroom hcn;go_enter Tryz.func157,Tryz.ntmps157;go_wp2_with (at_builtin;refine wpList_app_ranT rfl (.tmp 34) (.tmp 39) 208 3 rfl _ _ _ _ rfl rfl (hap _) ?_;clear hap)
    go_region
    all_goals
     go_wp2;go_ret;exact⟨.slice (some ⟨w.heap.size,0,none⟩) (n+1) GC,rfl,X.out.1,X.out.2,.inr (fun g' e=>by simp [Value.ownBlock] at e;omega)⟩
set_option maxRecDepth 100000 in
set_option maxHeartbeats 3200000 in
theorem bsfI_any(v tgt cp:Value)(rs:List (Value×Value))(cf:Nat->Int)(w:World)(h:CRow w v rs.length 2 (rowCs rs))(hl:rs.length<=1000000)
 (hf:∀ (i:Nat) (p:Value×Value),rs[i]? =some p->∀ W,Below w.heap.size w W->Calls Tryz.prog 160 #[.agg #[p.1,p.2],tgt,cp] W fun e w'=>e=.returned (.int .i64 (cf i))∧Below W.heap.size W w')
 (hm:∀ a b,a<=b->b<rs.length->cf b<0->cf a<0):
 Calls Tryz.prog 159 #[v,tgt,.func (.func 160) #[] #[cp]] w fun e w'=>∃ k:Nat,Fnd rs.length cf k∧e=.returned (.tuple #[.int .i64 (k:Int),.bool (decide (k<rs.length)&&decide (cf k=0))])∧Below w.heap.size w w':=by
 obtain⟨_,a,cap,rfl,hcap,hmx,hc⟩:=h;unfold maxLen at hmx;have HM:=Nm.hide hm;clear hm;go_enter Tryz.func159,Tryz.ntmps159;go_wp2
 go_loopw [9,10] (fun vi vj wr=>∃ i j:Nat,i<=j∧j<=rs.length∧vi=.int .i64 i∧vj=.int .i64 j∧Hid ((∀ q,q<i->cf q<0)∧(∀ q,j<=q->q<rs.length->0<=cf q))∧Below w.heap.size w wr) (fun vi vj _=>(intOf vj).toNat-(intOf vi).toNat)
 case atStart=>exact⟨0,rs.length,Nat.zero_le _,Nat.le_refl _,rfl,rfl,⟨fun q hq=>by omega,fun q h1 h2=>by omega⟩,Below.refl _ _⟩
 case round=>
  obtain⟨i,j,hij,hjl,rfl,rfl,HI,hbel⟩:=hrel
  by_cases hlt:i<j
  ·obtain⟨m,hm⟩:∃ m,m=(i+j) / 2:=⟨_,rfl⟩;have hm1:i<=m:=by omega
   have hm2:m<j:=by omega
   have g1:((i:Int)+(j:Int)) / 2=(m:Int):=by omega
   obtain⟨p,hp⟩:∃ p,rs[m]? =some p:=⟨_,List.getElem?_eq_getElem (by omega)⟩;have at0:=rowCs_at rs m 0 p hp (by decide);have at1:=rowCs_at rs m 1 p hp (by decide);obtain⟨b,off,rfl,hcell⟩:=hc (by omega);have put:∀ {B O:Nat} {z:Value},w.cell? ⟨B,O,none⟩=some z->wr.cell? ⟨B,O,none⟩=some z:=fun h=>(hbel.cell (World.block_lt_of_cell? w _ h)).trans h
   have c0:wr.cell? ⟨b,off+m*2,none⟩=some p.1:=put (hcell _ _ at0);have c1:wr.cell? ⟨b,off+m*2+1,none⟩=some p.2:=put (hcell _ _ at1);have hcl:=hf m p hp wr hbel;have n1:(0:Int)<=(m:Int):=by omega
   have n2:(m:Int)<(rs.length:Int):=by omega
   have n3:(i:Int)<(j:Int):=by omega
   have n4:(j:Int)<=1000000:=by omega
   clear hcell hc at0 at1 hp put hf hm
   by_cases hneg:cf m<0
   ·have HI2:Hid ((∀ q,q<m+1->cf q<0)∧(∀ q,j<=q->q<rs.length->0<=cf q)):=⟨fun q hq=>HM.out q m (by omega) (by omega) hneg,HI.out.2⟩;clear HI;go_wp2_with fail
    refine hcl.mono ?_;rintro e w1 ⟨rfl,b1⟩;go_wp2;go_roundw
    case rel=>exact⟨m+1,j,by omega,hjl,by go_num,rfl,HI2,Nm.below_two hbel b1⟩
    case measure=>simp [intOf];omega
   ·have HI2:Hid ((∀ q,q<i->cf q<0)∧(∀ q,m<=q->q<rs.length->0<=cf q)):=⟨HI.out.1,fun q h1 h2=>by
     rcases Int.lt_or_le (cf q) 0 with h|h
     ·exact absurd (HM.out m q h1 h2 h) hneg
     ·exact h⟩
    have n5:0<=cf m:=by omega
    clear HI hneg;go_wp2_with fail
    refine hcl.mono ?_;rintro e w1 ⟨rfl,b1⟩;go_wp2;go_roundw
    case rel=>exact⟨i,m,hm1,by omega,rfl,rfl,HI2,Nm.below_two hbel b1⟩
    case measure=>simp [intOf];omega
  ·obtain rfl:i=j:=by omega
   have HF:Hid (Fnd rs.length cf i):=⟨hjl,HI.out⟩;have n3:¬(i:Int)<(i:Int):=by omega
   clear HI HM
   by_cases hil:i<rs.length
   ·obtain⟨p,hp⟩:∃ p,rs[i]? =some p:=⟨_,List.getElem?_eq_getElem hil⟩;have at0:=rowCs_at rs i 0 p hp (by decide);have at1:=rowCs_at rs i 1 p hp (by decide);obtain⟨b,off,rfl,hcell⟩:=hc (by omega);have put:∀ {B O:Nat} {z:Value},w.cell? ⟨B,O,none⟩=some z->wr.cell? ⟨B,O,none⟩=some z:=fun h=>(hbel.cell (World.block_lt_of_cell? w _ h)).trans h
    have c0:wr.cell? ⟨b,off+i*2,none⟩=some p.1:=put (hcell _ _ at0);have c1:wr.cell? ⟨b,off+i*2+1,none⟩=some p.2:=put (hcell _ _ at1);have hcl:=hf i p hp wr hbel;have n1:(0:Int)<=(i:Int):=by omega
    have n2:(i:Int)<(rs.length:Int):=by omega
    have HIL:=Nm.hide hil;clear hcell hc at0 at1 hp put hf hil;have e0:(cf i==0)=decide (cf i=0):=by by_cases h:cf i=0<;>simp [h]
    have HE0:=Nm.hide e0;clear e0;go_wp2_with fail
    refine hcl.mono ?_;rintro e w1 ⟨rfl,b1⟩;go_wp2;go_ret2;refine⟨i,HF.out,?_,Nm.below_two hbel b1⟩;rw [decide_eq_true HIL.out,Bool.true_and,<- HE0.out];rfl
   ·have hie:i=rs.length:=by omega
    have n2:(rs.length:Int)<=(i:Int):=by omega
    have HIL:=Nm.hide hil;clear hc hf hil hie;go_wp2;go_ret2;refine⟨i,HF.out,?_,hbel⟩;rw [decide_eq_false HIL.out,Bool.false_and];rfl
set_option maxRecDepth 100000 in
set_option maxHeartbeats 1600000 in
theorem placeI_any(g:Nat)(cmpv rv key:Value)(rs:List (Value×Value))(cf:Nat->Int)(w:World)(hg:Blk w g #[cmpv,rv] 175)(h:CRow w rv rs.length 2 (rowCs rs))(hl:rs.length<=1000000)
 (hf:∀ (tb i:Nat) (p:Value×Value),rs[i]? =some p->∀ W,Below w.heap.size w W->Blk W tb #[.pointer (some ⟨g,0,none⟩)] 110->Calls Tryz.prog 160 #[.agg #[p.1,p.2],key,.pointer (some ⟨tb,0,none⟩)] W fun e w'=>e=.returned (.int .i64 (cf i))∧Below W.heap.size W w')
 (hm:∀ a b,a<=b->b<rs.length->cf b<0->cf a<0):
 Calls Tryz.prog 144 #[.pointer (some ⟨g,0,none⟩),key] w fun e w'=>∃ k:Nat,Fnd rs.length cf k∧e=.returned (.tuple #[.int .i64 (k:Int),.bool (decide (k<rs.length)&&decide (cf k=0))])∧Below w.heap.size w w':=by
 have hB0:=(Below.refl w.heap.size w).alloc (Nat.le_refl _) (.cells #[.pointer (some ⟨g,0,none⟩)] 110);have kb:=blk_new w #[.pointer (some ⟨g,0,none⟩)] 110;have hs:=bsfI_any rv key (.pointer (some ⟨w.heap.size,0,none⟩)) rs cf _ (h.below hB0) hl (fun i p hp W hW=>hf w.heap.size i p hp W (Nm.below_two hB0 hW) (blk_below kb hW)) hm;have kg:=blk_below hg hB0;have rg:=fun i=>blk_cell kg i
 have hmf:∀ (fn:Fn) (first cap:Array Value) (w:World),(Instr.makeFunc fn first cap).run Tryz.prog w=.ok (.func fn first cap) w:=fun _ _ _ _=>rfl
 obtain⟨_,a,cap,rfl,_⟩:=h;clear hf hm;go_enter Tryz.func144,Tryz.ntmps144;go_wp2_with fail
 refine hs.mono ?_;rintro e w1 ⟨k,hk,rfl,b1⟩;have HK:=Nm.hide hk;obtain⟨OK,hOK⟩:∃ OK,(decide (k<rs.length)&&decide (cf k=0))=OK:=⟨_,rfl⟩;rw [hOK];have HOK:=Nm.hide hOK;clear hOK hk hs;go_wp2;go_ret2;exact⟨k,HK.out,by rw [HOK.out];rfl,Nm.below_two hB0 b1⟩
end Go.Proofs.YtahpiciofdfipaaGreat
