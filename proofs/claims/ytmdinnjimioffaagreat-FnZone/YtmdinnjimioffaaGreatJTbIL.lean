import Derived.Test.YtmdinnjimioffaaGreatJSameM
import Derived.Deep.RegionHeld3
import Derived.Maps.AppendAt
import Derived.BigRegion
import Derived.RegionTactic
import Derived.Test.YtmdinnjimioffaaGreatJTbPI
import Derived.Test.YtmdinnjimioffaaGreatJOrdL
namespace Go.Proofs.YtmdinnjimioffaaGreat
open Go.RowKit
set_option linter.unusedVariables false
theorem Tryz.infoRowL:(Tryz.prog.info? 147).map (fun i=>(i.zero,i.size,i.bytes))=some (some (.agg #[.slice none 0 0,.pointer none]),2,32):=by kernel_rfl
theorem shape_ofL{w:World}{b:Nat}{cs:Array Value}{T:TypeId}(h:Blk w b cs T):w.shape? b=some (T,cs.size):=by
 unfold Blk at h;simp [World.shape?,h]
def InsL(B:Nat)(v:Value)(n i:Nat)(xs:List Value)(x0 x1:Value)(w:World)(e:Ending)(w':World):Prop:=
 ∃ u,e=.returned u∧w'.ownsRow B 147 2 u (n+1) (xs.take (i*2)++[x0,x1]++xs.drop (i*2))∧w.grownBy w' v.ownBlock∧(u.ownBlock=v.ownBlock∨∀ g,u.ownBlock=some g->w.heap.size<=g)
set_option maxRecDepth 100000 in
set_option maxHeartbeats 3200000 in
theorem insertL_any(v:Value)(n i:Nat)(xs:List Value)(x0 x1:Value)(vb vc B:Nat)(w:World)(h:w.ownsRow B 147 2 v n xs)(hi:i<=n)(hv:Blk w vb #[x0,x1] 147)(hvb:v.ownBlock≠some vb)
 (h1:∀ u∈xs,u.oneCell'=true) (h0:x0.oneCell'=true) (h0':x1.oneCell'=true) (hn:n<=1000000) (hB:B<=w.heap.size):
 Calls Tryz.prog 137 #[v,.int .i64 (i:Int),.slice (some ⟨vb,0,none⟩) 1 vc] w (InsL B v n i xs x0 x1 w):=by
 obtain⟨i0,hi0,hz0,hz1,hz2⟩:=info_parts Tryz.infoRowL;have hxl:xs.length=n*2:=h.1
 have hcv:∀ (j:Nat) (u:Value),[x0,x1][j]? =some u->w.cell? ((⟨vb,0,none⟩:Addr).add j)=some u:=by
  intro j u hj;rw [Nm.addr_add,Nat.zero_add,blk_cell hv j];simpa using hj
 have hone:∀ u∈[x0,x1],u.oneCell'=true:=by
  intro u hu;simp at hu
  rcases hu with rfl|rfl
  ·exact h0
  ·exact h0'
 by_cases hin:i=n
 ·subst hin
  have hHX:Hid (xs.take (i*2)++[x0,x1]++xs.drop (i*2)=xs++[x0,x1]):=by
   show _=_
   rw [List.take_of_length_le (by omega),List.drop_of_length_le (by omega),List.append_nil]
  rcases h.2 with⟨rfl,hn0⟩|⟨g,cap,cur,rfl,hbg,hg,hnc,hcm,hcs,htk⟩
  ·have hi0':i=0:=hn0;subst hi0';have hcast:((0:Nat):Int)=0:=rfl;rw [hcast];go_enter Tryz.func137,Tryz.ntmps137;go_wp2_with (at_builtin;refine wpList_append_own_at _ rfl (.tmp 23) (.tmp 24) 143 rfl B 147 i0 _ 2 32 Tryz.underlying143 hi0 hz0 hz1 hz2 rfl (by decide) _ _ _ rfl h ⟨vb,0,none⟩ 1 vc [x0,x1] rfl rfl hcv hone (by unfold maxLen;omega) (by omega) hB ?_;intro va wa ho9 hg9 hnl9 hat9)
   go_ret;exact⟨va,rfl,by rw [hHX.out];exact ho9,hg9,by rcases hat9 with h|h;exact .inl h;right;intro g e;rw [h] at e;simp at e;omega⟩
  ·unfold maxLen at hcm
   by_cases hci:cap=i
   all_goals
    go_enter Tryz.func137,Tryz.ntmps137;go_wp2_with (at_builtin;refine wpList_append_own_at _ rfl (.tmp 23) (.tmp 24) 143 rfl B 147 i0 _ 2 32 Tryz.underlying143 hi0 hz0 hz1 hz2 rfl (by decide) _ _ _ rfl h ⟨vb,0,none⟩ 1 vc [x0,x1] rfl rfl hcv hone (by unfold maxLen;omega) (by omega) hB ?_;intro va wa ho9 hg9 hnl9 hat9)
    go_ret;exact⟨va,rfl,by rw [hHX.out];exact ho9,hg9,by rcases hat9 with h|h;exact .inl h;right;intro g e;rw [h] at e;simp at e;omega⟩
 ·have hlt:i<n:=by omega
  rcases h.2 with⟨rfl,hn0⟩|⟨g,cap,cur,rfl,hbg,hg,hnc,hcm,hcs,htk⟩
  ·omega
  ·have hkg:Blk w g cur 147:=hg;have hgv:vb≠g:=fun e=>hvb (by rw [e];rfl)
   have hsz2:(Tryz.prog.info? 147).map (·.size)=some 2:=by rw [hi0];simp [hz1]
   have hsrcx:∀ (W:World),Blk W g cur 147->∀ (j:Nat) (u:Value),(xs.drop (i*2))[j]? =some u->W.cell? ((⟨g,i*2,none⟩:Addr).add j)=some u:=by
    intro W hW j u hj;rw [Nm.addr_add,blk_cell hW];rw [List.getElem?_drop] at hj;have hjl:=(List.getElem?_eq_some_iff.1 hj).1;rw [<- htk,List.getElem?_take_of_lt (by omega)] at hj;simpa using hj
   have hdl:(xs.drop (i*2)).length=(n-i)*2:=by rw [List.length_drop,hxl];omega
   have h1d:∀ u∈xs.drop (i*2),u.oneCell'=true:=fun u hu=>h1 u (List.mem_of_mem_drop hu)
   unfold maxLen at hcm;have z1:¬((i:Int)=(n:Int)):=by omega
   have z2:(0:Int)<=(i:Int):=by omega
   have z3:(i:Int)<=(n:Int):=by omega
   have z4:¬cap=i:=by omega
   have z6:((i:Int)+1).toNat=i+1:=by omega
   by_cases hroom:n+1<=cap
   ·have hov:∀ lb cb,(callFunc 153 #[.slice (some ⟨vb,0,none⟩) 1 vc,.slice (some ⟨g,(i+1)*2,none⟩) lb cb]).run Tryz.prog w=.ok (.value (.bool false)) w:=fun lb cb=>by
     rw [run_callFunc_extern Tryz.func153 (by kernel_rfl) (by kernel_rfl) (by kernel_rfl) (e:=Extern.SlicesOverlaps.overlaps #[143,143] #[4]) (by kernel_rfl),
      Lib.run_overlaps_apart w 143 4 147 Tryz.underlying143 2 (fun w=>by rw [sizeOf];simp [typeInfo,hi0,hz1]) ⟨vb,0,none⟩ ⟨g,(i+1)*2,none⟩ 1 vc lb cb hgv 147 147 2 cur.size (shape_ofL hv) (shape_ofL hkg) (by omega) (frozen_of_row w vb 0 _ _ hv) (frozen_of_row w vb 2 _ _ hv)]
     rfl
    have z5:¬cap=i+1:=by omega
    obtain⟨c1,hc1⟩:∃ c1,c1=cur.toList.take ((i+1)*2)++xs.drop (i*2)++cur.toList.drop ((i+1)*2+(xs.drop (i*2)).length):=⟨_,rfl⟩;obtain⟨hl1,hall⟩:=ins_room x0 x1 (by rw [Array.length_toList,hcs]) htk hlt hroom c1 hc1;obtain⟨c2,hc2⟩:∃ c2,c2=c1.take (i*2)++[x0,x1]++c1.drop (i*2+[x0,x1].length):=⟨_,rfl⟩;obtain⟨hl2,hres⟩:=hall c2 hc2
    have hcp1:∀ ty dc sc,(Builtin.copy_ #[143,143] ty #[.slice (some ⟨g,(i+1)*2,none⟩) (n-i) dc,.slice (some ⟨g,i*2,none⟩) (n+1-i) sc]).run Tryz.prog w.drew=.ok (goInt (Nat.min (n+1-i) (n-i))) (w.drew.setRow g c1.toArray):=fun ty dc sc=>by
     rw [hc1];exact run_copy_rowK w.drew _ _ ty 147 g ((i+1)*2) _ dc ⟨g,i*2,none⟩ _ sc cur 147 (xs.drop (i*2)) 2 Tryz.underlying143 hsz2 hkg (by rw [hdl];simp only [Nat.min_def];split<;>omega) (hsrcx _ hkg) (by rw [hdl,hcs];omega) h1d
    have hk1:Blk (w.drew.setRow g c1.toArray) g c1.toArray 147:=setRow_blk (blk_drew hkg) _
    have hcp2:∀ ty dc,(Builtin.copy_ #[143,143] ty #[.slice (some ⟨g,i*2,none⟩) (n+1-i) dc,.slice (some ⟨vb,0,none⟩) 1 vc]).run Tryz.prog (w.drew.setRow g c1.toArray)=.ok (goInt (Nat.min 1 (n+1-i))) ((w.drew.setRow g c1.toArray).setRow g c2.toArray):=fun ty dc=>by
     rw [hc2]
     exact run_copy_rowK (w.drew.setRow g c1.toArray) _ _ ty 147 g (i*2) _ dc ⟨vb,0,none⟩ 1 vc c1.toArray 147 [x0,x1] 2 Tryz.underlying143 hsz2 hk1 (by simp only [Nat.min_def,List.length_cons,List.length_nil];split<;>omega) (fun j u hj=>by
      rw [World.cell?_of_block (w:=w.drew) (by rw [Nm.addr_add];exact setRow_other w.drew g vb _ hgv)]
      exact hcv j u hj) (by simp only [List.size_toArray,hl1,List.length_cons,List.length_nil];omega) hone
    have X:=Nm.hide (And.intro (own_of_blk (n:=n+1) (cap:=cap) (s:=2) (setRow_blk hk1 c2.toArray) hbg (by omega) hcm (by simp [hl2]) (show c2.toArray.toList.take ((n+1)*2)=xs.take (i*2)++[x0,x1]++xs.drop (i*2) from hres)) (hgr_step (g:=g) ((⟨rfl,rfl,rfl,Nat.le_refl _,fun _ _ _=>rfl⟩:w.grownBy w.drew (some g))) (hgr_step (setRow_grown w.drew g c1.toArray) (setRow_grown _ g c2.toArray))));clear hc1 hc2 hall hres hl1 hl2 hsrcx htk;go_enter Tryz.func137,Tryz.ntmps137;go_wp2;go_region
    all_goals
     go_wp2;go_ret;exact⟨.slice (some ⟨g,0,none⟩) (n+1) cap,rfl,X.out.1,X.out.2,.inl rfl⟩
   ·have hcn:cap=n:=by omega
    obtain⟨GC,hGC⟩:∃ GC,GC=grownCap w (i+(n+1-i)) cap 147:=⟨_,rfl⟩;have hge:n+1<=GC:=by rw [hGC];have:=grownCap_ge w (i+(n+1-i)) cap 147;omega
    have hgm:GC<=maxLen:=by rw [hGC];exact grownCap_le_maxLen w _ cap 147 (by unfold maxLen;omega)
    obtain⟨Z,hZ⟩:∃ Z:List Value,Z=(Builtin.zeroCells (Value.agg #[.slice none 0 0,.pointer none]).cells (n+1-i)++Builtin.zeroCells (Value.agg #[.slice none 0 0,.pointer none]).cells (GC-(n+1))).toList:=⟨_,rfl⟩
    have hzl:(xs.take (i*2)++Z).length=GC*2:=by
     have hzs:(Value.agg #[.slice none 0 0,.pointer none]).cells.size=2:=rfl;have e1:(Builtin.zeroCells (Value.agg #[.slice none 0 0,.pointer none]).cells (n+1-i)).toList.length=(n+1-i)*2:=by rw [Array.length_toList,size_zeroCells,hzs]
     have e2:(Builtin.zeroCells (Value.agg #[.slice none 0 0,.pointer none]).cells (GC-(n+1))).toList.length=(GC-(n+1))*2:=by rw [Array.length_toList,size_zeroCells,hzs]
     rw [hZ,List.length_append,List.length_take,Array.toList_append,List.length_append,e1,e2,hxl];omega
    have hap:∀ ty,(Builtin.append_ #[143,3] ty #[.slice (some ⟨g,0,none⟩) i cap,.int .i64 (((n:Int)+1-(i:Int)))]).run Tryz.prog w=.ok (.slice (some ⟨w.heap.size,0,none⟩) (n+1) GC) (w.drew.alloc (.cells (xs.take (i*2)++Z).toArray 147)):=by
     intro ty
     have hfc:(Builtin.firstCells i0.size i (.slice (some ⟨g,0,none⟩) i cap)).run Tryz.prog w.drew=.ok (xs.take (i*2)).toArray w.drew:=by
      have hl:=run_loadCells_list (P:=Tryz.prog) w.drew ⟨g,0,none⟩ (xs.take (i*2)) (fun j u hj=>by
       rw [Nm.addr_add,blk_cell (blk_drew hkg),Nat.zero_add];rw [List.getElem?_take] at hj
       split at hj
       ·rename_i hji;rw [<- htk,List.getElem?_take_of_lt (by omega)] at hj;simpa using hj
       ·cases hj)
      rw [List.length_take,hxl,Nat.min_eq_left (by omega)] at hl;simp [Builtin.firstCells,hz1,hl]
     have hr:=Lib.run_append_grow_zeros (P:=Tryz.prog) w 143 3 ty 147 i0 _ .i64 .i64 Tryz.underlying143 Tryz.underlying3 hi0 hz0 (some ⟨g,0,none⟩) i cap (xs.take (i*2)) hfc (n+1-i) (by omega) (by omega) (by omega) (by omega) (by rw [hz2];omega) (by rw [hz2];exact growslice_fits (by omega) (by omega));rw [show((n+1-i:Nat):Int)=(n:Int)+1-(i:Int) by omega] at hr;rw [hr,<- hGC,hZ];congr 1
     ·rw [show i+(n+1-i)=n+1 by omega]
     ·rw [show i+(n+1-i)=n+1 by omega];congr 2;rw [Array.append_assoc];apply Array.toList_inj.1;simp
    have hkW:Blk (w.drew.alloc (.cells (xs.take (i*2)++Z).toArray 147)) w.heap.size (xs.take (i*2)++Z).toArray 147:=blk_new w.drew _ _;have hbW:Below w.heap.size w (w.drew.alloc (.cells (xs.take (i*2)++Z).toArray 147)):=(Below.refl _ _).drew.alloc (Nat.le_refl _) _;obtain⟨c1,hc1⟩:∃ c1,c1=(xs.take (i*2)++Z).take (i*2)++[x0,x1]++(xs.take (i*2)++Z).drop (i*2+[x0,x1].length):=⟨_,rfl⟩;obtain⟨hl1,hall⟩:=ins_grow x0 x1 hxl hlt hge hzl c1 hc1;obtain⟨c2,hc2⟩:∃ c2,c2=c1.take ((i+1)*2)++xs.drop (i*2)++c1.drop ((i+1)*2+(xs.drop (i*2)).length):=⟨_,rfl⟩;obtain⟨hl2,hres⟩:=hall c2 hc2;generalize hW0:w.drew.alloc (.cells (xs.take (i*2)++Z).toArray 147)=W0 at*;have hgW0:Blk W0 g cur 147:=blk_below hkg hbW;have hvW0:Blk W0 vb #[x0,x1] 147:=blk_below hv hbW;have hglt:=blk_lt hkg;have hvlt:=blk_lt hv
    have hcp1:∀ ty dc,(Builtin.copy_ #[143,143] ty #[.slice (some ⟨w.heap.size,i*2,none⟩) (n+1-i) dc,.slice (some ⟨vb,0,none⟩) 1 vc]).run Tryz.prog W0=.ok (goInt (Nat.min 1 (n+1-i))) (W0.setRow w.heap.size c1.toArray):=fun ty dc=>by
     rw [hc1]
     exact run_copy_rowK W0 _ _ ty 147 w.heap.size (i*2) _ dc ⟨vb,0,none⟩ 1 vc _ 147 [x0,x1] 2 Tryz.underlying143 hsz2 hkW (by simp only [Nat.min_def,List.length_cons,List.length_nil];split<;>omega) (fun j u hj=>by
      rw [Nm.addr_add,blk_cell hvW0,Nat.zero_add]
      simpa using hj) (by simp only [List.size_toArray,hzl,List.length_cons,List.length_nil];omega) hone
    have hk1:Blk (W0.setRow w.heap.size c1.toArray) w.heap.size c1.toArray 147:=setRow_blk hkW _
    have hg1:Blk (W0.setRow w.heap.size c1.toArray).drew g cur 147:=by
     unfold Blk
     show(W0.setRow w.heap.size c1.toArray).heap[g]? =_
     rw [setRow_other W0 _ g _ (by omega)];exact hgW0
    have hcp2:∀ ty dc sc,(Builtin.copy_ #[143,143] ty #[.slice (some ⟨w.heap.size,(i+1)*2,none⟩) (n-i) dc,.slice (some ⟨g,i*2,none⟩) (n-i) sc]).run Tryz.prog (W0.setRow w.heap.size c1.toArray).drew=.ok (goInt (Nat.min (n-i) (n-i))) ((W0.setRow w.heap.size c1.toArray).drew.setRow w.heap.size c2.toArray):=fun ty dc sc=>by
     rw [hc2];exact run_copy_rowK (W0.setRow w.heap.size c1.toArray).drew _ _ ty 147 w.heap.size ((i+1)*2) _ dc ⟨g,i*2,none⟩ _ sc c1.toArray 147 (xs.drop (i*2)) 2 Tryz.underlying143 hsz2 (blk_drew hk1) (by rw [hdl];simp only [Nat.min_def];split<;>omega) (hsrcx _ hg1) (by rw [hdl];simp only [List.size_toArray,hl1];omega) h1d
    have X:=Nm.hide (And.intro (own_of_blk (B:=B) (n:=n+1) (cap:=GC) (s:=2) (setRow_blk (blk_drew hk1) c2.toArray) hB hge hgm (by simp [hl2]) (show c2.toArray.toList.take ((n+1)*2)=xs.take (i*2)++[x0,x1]++xs.drop (i*2) from hres)) (show w.grownBy ((W0.setRow w.heap.size c1.toArray).drew.setRow w.heap.size c2.toArray) (some g) from by
     refine⟨hbW.os,hbW.tape,hbW.output,?_,fun k hk hne=>?_⟩
     ·rw [setRow_size];show w.heap.size<=(W0.setRow w.heap.size c1.toArray).heap.size
      rw [setRow_size];exact hbW.size
     ·rw [setRow_other _ _ k _ (by omega)]
      show(W0.setRow w.heap.size c1.toArray).heap[k]? =_
      rw [setRow_other _ _ k _ (by omega)]
      exact hbW.block k hk))
    have y1:¬GC=i:=by omega
    have y2:¬GC=i+1:=by omega
    have y3:¬n+1<=cap:=by omega
    have y4:(cap:Int)<(n:Int)+1:=by omega
    have y5:IntKind.i64.wrap ((i:Int)+1)=(i:Int)+1:=by rw [IntKind.wrap_i64];omega
    have y6:(0:Int)<=(i:Int)+1:=by omega
    have y7:(i:Int)+1<=(n:Int)+1:=by omega
    unfold maxLen at hgm;clear hc1 hc2 hall hres hl1 hl2 hsrcx htk hGC hZ hzl hW0 hg1 hk1 hkW hbW hgW0 hvW0 hroom hcn;go_enter Tryz.func137,Tryz.ntmps137;go_wp2_with (at_builtin;refine wpList_app_ranT rfl (.tmp 34) (.tmp 39) 143 3 rfl _ _ _ _ rfl rfl (hap _) ?_;clear hap)
    go_region
    all_goals
     go_wp2;go_ret;exact⟨.slice (some ⟨w.heap.size,0,none⟩) (n+1) GC,rfl,X.out.1,X.out.2,.inr (fun g' e=>by simp [Value.ownBlock] at e;omega)⟩
set_option maxRecDepth 100000 in
set_option maxHeartbeats 1600000 in
theorem valueOfL_in(g B:Nat)(cmpv rv key fv:Value)(rs:List (Value×Value))(cf:Nat->Int)(k:Nat)(p:Value×Value)(w:World)(hg:Blk w g #[cmpv,rv] 145)(h:w.ownsRow B 147 2 rv rs.length (rowCs rs))(hl:rs.length<=1000000)
 (hf:∀ (tb i:Nat) (p:Value×Value),rs[i]? =some p->∀ W,Below w.heap.size w W->Blk W tb #[.pointer (some ⟨g,0,none⟩)] 68->Calls Tryz.prog 152 #[.agg #[p.1,p.2],key,.pointer (some ⟨tb,0,none⟩)] W fun e w'=>e=.returned (.int .i64 (cf i))∧Below W.heap.size W w')
 (hm:∀ a b,a<=b->b<rs.length->cf b<0->cf a<0) (hk:Fnd rs.length cf k) (hp:rs[k]? =some p) (h0:cf k=0):
 Calls Tryz.prog 114 #[.pointer (some ⟨g,0,none⟩),key,fv] w fun e w'=>e=.returned p.2∧Below w.heap.size w w':=by
 have hpl:=placeL_any g cmpv rv key rs cf w hg (CRow.of_owns h) hl hf hm;have hkl:=(List.getElem?_eq_some_iff.1 hp).1;have at1:=rowCs_at rs k 1 p hp (by decide);obtain⟨_,a,cap,rfl,hcap,hmx,hc⟩:=CRow.of_owns h;obtain⟨b,off,rfl,hcell⟩:=hc (by omega);have c1:=hcell _ _ at1;have HK:=Nm.hide hk;have H0:=Nm.hide (And.intro hkl h0);unfold maxLen at hmx;have n1:(0:Int)<=(k:Int):=by omega
 have n2:(k:Int)<(rs.length:Int):=by omega
 clear hf hm hk hp h0 h hcell hc at1;go_enter Tryz.func114,Tryz.ntmps114;go_wp2_with fail
 refine hpl.mono ?_;rintro e w1 ⟨k',hk',rfl,b1⟩;obtain rfl:=Fnd.unique HK.out hk';rw [decide_eq_true H0.out.1,decide_eq_true H0.out.2];have kg:=blk_below hg b1;have rg:=fun i=>blk_cell kg i
 have d1:w1.cell? ⟨b,off+k*2+1,none⟩=some p.2:=(b1.cell (World.block_lt_of_cell? w _ c1)).trans c1;have tt:(true&&true)=true:=rfl;clear hpl hk' c1 H0;go_wp2;go_ret;exact⟨rfl,b1⟩
set_option maxRecDepth 100000 in
set_option maxHeartbeats 3200000 in
theorem valueOfL_out(g B:Nat)(cmpv rv:Value)(ka:Option Addr)(kn kc:Nat)(caps:Array Value)(rs:List (Value×Value))(cf:Nat->Int)(k:Nat)(w:World)(ob:Option Nat)(P:Addr->World->World->Prop)(hg:Blk w g #[cmpv,rv] 145)(h:w.ownsRow B 147 2 rv rs.length (rowCs rs))(hl:rs.length<=500000)
 (hf:∀ (tb i:Nat) (p:Value×Value),rs[i]? =some p->∀ W,Below w.heap.size w W->Blk W tb #[.pointer (some ⟨g,0,none⟩)] 68->Calls Tryz.prog 152 #[.agg #[p.1,p.2],(Value.slice ka kn kc),.pointer (some ⟨tb,0,none⟩)] W fun e w'=>e=.returned (.int .i64 (cf i))∧Below W.heap.size W w')
 (hm:∀ a b,a<=b->b<rs.length->cf b<0->cf a<0) (hk:Fnd rs.length cf k) (h0:¬(k<rs.length∧cf k=0))
 (h1:∀ p∈rs,p.1.oneCell'=true∧p.2.oneCell'=true) (hB:B<=w.heap.size)
 (hfr:∀ W,Below w.heap.size w W->Calls Tryz.prog 115 caps W fun e w'=>∃ ux:Addr,e=.returned (Value.pointer (some ux))∧W.grownBy w' ob∧P ux W w') (hob:ob≠some g) (hrv:∀ x,rv.ownBlock=some x->ob≠some x):
 Calls Tryz.prog 114 #[.pointer (some ⟨g,0,none⟩),(Value.slice ka kn kc),.func (.func 115) #[] caps] w fun e w'=>∃ (ux:Addr) (W w1:World) (rv':Value),e=.returned (Value.pointer (some ux))∧Below w.heap.size w W∧W.grownBy w1 ob∧P ux W w1∧Blk w' g #[cmpv,rv'] 145∧w'.ownsRow B 147 2 rv' (rs.length+1) (rowCs (rs.take k++[((Value.slice ka kn kc),(Value.pointer (some ux)))]++rs.drop k))∧Kp2 g rv.ownBlock w1 w'∧(rv'.ownBlock=rv.ownBlock∨∀ x,rv'.ownBlock=some x->w1.heap.size<=x):=by
 have hpl:=placeL_any g cmpv rv (Value.slice ka kn kc) rs cf w hg (CRow.of_owns h) (by omega) hf hm;obtain⟨a,cap,rfl⟩:=own_sl h;have HK:=Nm.hide hk
 have H0:Hid ((decide (k<rs.length)&&decide (cf k=0))=false):=by
  show _=_
  rw [Bool.and_eq_false_iff]
  by_cases hx:k<rs.length
  ·exact .inr (decide_eq_false (fun h=>h0 ⟨hx,h⟩))
  ·exact .inl (decide_eq_false hx)
 clear hf hm hk h0;go_enter Tryz.func114,Tryz.ntmps114;go_wp2_with fail
 refine hpl.mono ?_;rintro e w1 ⟨k',hk',rfl,b1⟩;obtain rfl:=Fnd.unique HK.out hk';rw [H0.out];have kg:=blk_below hg b1;have h2:=own_below h b1;have hfr1:=hfr w1.drew b1.drew;have hkn:k<=rs.length:=HK.out.1;have hgw:=blk_lt hg;clear hpl hk' hfr H0 HK;go_wp2;refine wp_region_last (fun W=>W.cell? ⟨g,1,none⟩=some (.slice a rs.length cap)) 14 (by kernel_rfl) (blk_cell kg 1) (fun hHeld=>?_);refine tkA 0 rfl ?_;refine tkA 1 rfl ?_;refine tkA 2 rfl ?_;refine tkA 3 rfl ?_;refine tkA 4 rfl ?_;refine tkA 5 rfl ?_;refine tkA 6 rfl ?_;refine tkA 7 rfl ?_;refine wpAnyL_one (i:=8) (by kernel_rfl) rfl (fun K hK=>?_);go_simp;refine hfr1.mono ?_;rintro e w2 ⟨ux,rfl,hgr,hP⟩;go_wp2_with fail
 have kg2:Blk w2 g #[cmpv,.slice a rs.length cap] 145:=blk_grown (blk_drew kg) hgr (fun e=>hob e)
 have hrr:w2.ownsRow B 147 2 (.slice a rs.length cap) rs.length (rowCs rs):=h2.drew.kept hgr (by
  cases hv:(Value.slice a rs.length cap).ownBlock with
  |none=>exact .inl rfl
  |some x=>right;intro e;exact hrv x hv e.symm)
 refine hK.out _ _ (blk_cell kg2 1) (fun _=>?_);clear hK K hfr1;refine tkA 9 rfl ?_;have hb2:Below w2.heap.size w2 (w2.alloc (.cells #[(Value.slice ka kn kc),(Value.pointer (some ux))] 147)):=(Below.refl _ _).alloc (Nat.le_refl _) _;have kg3:=blk_below kg2 hb2;refine wpAnyL_one (i:=10) (by kernel_rfl) rfl (fun K hK=>?_);go_simp;refine hK.out _ _ (blk_cell kg3 1) (fun _=>?_);clear hK K;have hwB:B<=w2.heap.size:=by have:=b1.size;have:=hgr.size;simp at this;omega
 have hins:=insertL_any (.slice a rs.length cap) rs.length k (rowCs rs) (Value.slice ka kn kc) (Value.pointer (some ux)) w2.heap.size 1 B _ (own_below hrr hb2) hkn (blk_new w2 #[(Value.slice ka kn kc),(Value.pointer (some ux))] 147) (fun e=>by have:=(hrr.lt _ e).2;omega) (rowCs_one h1) rfl rfl (by omega) (by simp;omega);refine wpAnyL_one (i:=11) (by kernel_rfl) rfl (fun K hK=>?_);go_simp;refine hins.mono ?_;rintro e w3 ⟨rv',rfl,ho3,hg3,hat3⟩;go_wp2_with fail
 rw [rowCs_ins] at ho3
 obtain⟨g',cap',rfl⟩:∃ g' cap',rv'=.slice (some ⟨g',0,none⟩) (rs.length+1) cap':=by
  rcases ho3.2 with⟨_,h0⟩|⟨g',cap',cur,e,_⟩
  ·omega
  ·exact⟨g',cap',e⟩
 have hgg:(Value.slice a rs.length cap).ownBlock≠some g:=by
  intro e
  rcases hrr.2 with⟨h0,_⟩|⟨q,c,cur,e1,_,hh,_⟩
  ·simp only [Value.slice.injEq] at h0;rw [h0.1] at e;cases e
  ·simp only [Value.slice.injEq] at e1;rw [e1.1] at e;simp only [Value.ownBlock,Option.some.injEq] at e;subst e;rw [Blk,hh] at kg2;simp only [Option.some.injEq,Obj.cells.injEq] at kg2;exact absurd kg2.2.1 (by decide)
 have kg4:=blk_grown kg3 hg3 hgg;have rg4:=fun i=>blk_cell kg4 i
 have fg4:=fun i=>blk_frozen kg4 i
 refine hK.out _ _ (blk_cell kg4 1) (fun _=>?_);clear hK K hins;refine wpAnyL_one (i:=12) (by kernel_rfl) rfl (fun K hK=>?_);go_simp;refine hK.out _ _ (blk_cell kg4 1) (fun _=>?_);clear hK K;refine tkA 13 rfl ?_;refine wpAnyL_end (by kernel_rfl) rfl (by kernel_rfl) (fun K hK=>?_);go_simp;refine hK.out _ _ ?_;clear hK K
 have hgn:g'≠g:=by
  intro e;subst e
  rcases ho3.2 with⟨h0,_⟩|⟨q,c,cur,e1,_,hh,_⟩
  ·cases h0
  ·simp only [Value.slice.injEq,Option.some.injEq,Addr.mk.injEq] at e1;obtain⟨⟨rfl,_⟩,_⟩:=e1;rw [Blk,hh] at kg4;simp only [Option.some.injEq,Obj.cells.injEq] at kg4;exact absurd kg4.2.1 (by decide)
 have ho4:=own_far (y:=.slice (some ⟨g',0,none⟩) (rs.length+1) cap') (i:=1) (g:=g) ho3 (by simp [Value.ownBlock];exact hgn);have kg5:=blk_set kg4 1 (.slice (some ⟨g',0,none⟩) (rs.length+1) cap');have hlen:(rs.take k++[((Value.slice ka kn kc),(Value.pointer (some ux)))]++rs.drop k).length=rs.length+1:=by simp;omega
 have hxk:(rs.take k++[((Value.slice ka kn kc),(Value.pointer (some ux)))]++rs.drop k)[k]? =some ((Value.slice ka kn kc),(Value.pointer (some ux))):=by
  have hlk:(rs.take k).length=k:=by rw [List.length_take];omega
  rw [List.append_assoc,List.getElem?_append_right (by omega),hlk];simp
 have c1:(w3.setCell ⟨g,1,none⟩ (.slice (some ⟨g',0,none⟩) (rs.length+1) cap')).cell? ⟨g',k*2+1,none⟩=some (Value.pointer (some ux)):=(ho4.cellAt (k*2+1) (by omega)).trans ((rowCs_at _ k 1 _ hxk (by decide)).trans rfl);have c2:(w3.setCell ⟨g,1,none⟩ (.slice (some ⟨g',0,none⟩) (rs.length+1) cap')).cell? ⟨g,1,none⟩=some (.slice (some ⟨g',0,none⟩) (rs.length+1) cap'):=(blk_cell kg5 1).trans (by simp);have n1:(0:Int)<=(k:Int):=by omega
 have n2:(k:Int)<(rs.length:Int)+1:=by omega
 have hKP:Kp2 g (Value.slice a rs.length cap).ownBlock w2 (w3.setCell ⟨g,1,none⟩ (.slice (some ⟨g',0,none⟩) (rs.length+1) cap')):=by
  refine⟨hg3.os,hg3.tape,hg3.output,?_,fun q hq hne hne2=>?_⟩
  ·have:=hg3.size;simp at this ⊢;omega
  ·rw [heap_setCell_other w3 ⟨g,1,none⟩ q _ (by simpa using hne),hg3.block q (by simp;omega) (fun e=>hne2 e.symm)];exact hb2.block q hq
 have HX:=Nm.hide (And.intro b1 (And.intro hgr (And.intro hP (And.intro kg5 (And.intro ho4 (And.intro hKP hat3))))));clear b1 hgr hP kg5 ho4 hKP hat3 ho3 hg3 kg4 kg3 kg2 kg hrr h2 h hg hb2 rg4 fg4 hxk;go_wp2;go_ret
 exact⟨ux,w1.drew,w2,_,rfl,HX.out.1.drew,HX.out.2.1,HX.out.2.2.1,HX.out.2.2.2.1,HX.out.2.2.2.2.1,HX.out.2.2.2.2.2.1,by
  rcases HX.out.2.2.2.2.2.2 with h|h
  ·exact .inl h
  ·exact .inr (fun x e=>by have:=h x e;simp at this;omega)⟩
end Go.Proofs.YtmdinnjimioffaaGreat
