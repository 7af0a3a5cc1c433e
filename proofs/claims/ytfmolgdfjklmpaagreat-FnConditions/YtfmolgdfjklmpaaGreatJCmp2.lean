import Derived.Test.YtfmolgdfjklmpaaGreatJSls
import Derived.Test.YtfmolgdfjklmpaaGreatJMath
import Derived.Deep.RegionHeld3
import Derived.Maps.AppendAt
import Derived.BigRegion
import Derived.RegionTactic
import Derived.Maps.Own
import Derived.DeepKeys4
import Derived.Maps.RangeRun
import Derived.WideKeyEntry
import Derived.Test.YtfmolgdfjklmpaaGreatJCutM
namespace Go.Proofs.YtfmolgdfjklmpaaGreat
open Go.RowKit
theorem cell_drewN(w:World)(m:Nat)(a:Addr):(w.drewN m).cell? a=w.cell? a:=by simp
set_option maxRecDepth 100000 in
set_option maxHeartbeats 800000 in
theorem compare_any(v u:Value)(xs ys:List ByteArray)(w:World)(h:Nm.SRow w v xs)(h':Nm.SRow w u ys)(hxs:∀ x∈xs,x.size<=1000000000)(hlx:xs.length<=1000000000)(hly:ys.length<=1000000000):
 Calls Tryz.prog 108 #[v,u] w fun e w'=>e=.returned (.int .i64 (Nm.cmpLs xs ys))∧∃ m,w'=w.drewN m:=by
 obtain⟨a,cap,rfl,hcap,hmx,hnl,hc⟩:=h;obtain⟨a',cap',rfl,hcap',hmx',hnl',hc'⟩:=h';clear hnl hnl';go_enter Tryz.func108,Tryz.ntmps108;go_wp2
 go_loopw [5] (fun i wr=>∃ k:Nat,k<=xs.length∧k<=ys.length∧i=.int .i64 ((k:Int)+1)∧Hid (Nm.cmpLs xs ys=Nm.cmpRev (xs.reverse.drop k) (ys.reverse.drop k))∧∃ m,Hid (wr=w.drewN m))
  (fun i _=>xs.length+1-(intOf i).toNat)
 case atStart=>exact⟨0,Nat.zero_le _,Nat.zero_le _,rfl,by show _=_;simp [Nm.cmpLs],0,rfl⟩
 case round=>
  obtain⟨k,hka,hkb,rfl,HT,m,HW⟩:=hrel
  by_cases h1:k<xs.length∧k<ys.length
  ·obtain⟨h1,h2⟩:=h1;have i1:(k:Int)+1<=(xs.length:Int):=by omega
   have i2:(k:Int)+1<=(ys.length:Int):=by omega
   obtain⟨x,hx⟩:∃ x,xs[xs.length-(k+1)]? =some x:=⟨_,List.getElem?_eq_getElem (by omega)⟩;obtain⟨y,hy⟩:∃ y,ys[ys.length-(k+1)]? =some y:=⟨_,List.getElem?_eq_getElem (by omega)⟩;obtain⟨b,off,rfl,hcell⟩:=hc (by intro h;rw [h] at h1;simp at h1);obtain⟨b',off',rfl,hcell'⟩:=hc' (by intro h;rw [h] at h2;simp at h2);have hcx:wr.cell? ⟨b,off+(xs.length-(k+1)),none⟩=some (.string x):=by rw [HW.out,cell_drewN];exact hcell _ _ hx
   have hcy:wr.cell? ⟨b',off'+(ys.length-(k+1)),none⟩=some (.string y):=by rw [HW.out,cell_drewN];exact hcell' _ _ hy
   have hxz:=hxs x (List.mem_of_getElem? hx);have q1:(0:Int)<=(xs.length:Int)-((k:Int)+1):=by omega
   have q2:(xs.length:Int)-((k:Int)+1)<(xs.length:Int):=by omega
   have q3:((xs.length:Int)-((k:Int)+1)).toNat=xs.length-(k+1):=by omega
   have q4:(0:Int)<=(ys.length:Int)-((k:Int)+1):=by omega
   have q5:(ys.length:Int)-((k:Int)+1)<(ys.length:Int):=by omega
   have q6:((ys.length:Int)-((k:Int)+1)).toNat=ys.length-(k+1):=by omega
   have hrx:=Nm.rev_get h1 hx;have hry:=Nm.rev_get h2 hy
   by_cases he:Nm.ordS x y=0
   ·have HN:Hid (Nm.cmpLs xs ys=Nm.cmpRev (xs.reverse.drop (k+1)) (ys.reverse.drop (k+1))):=HT.out.trans (Nm.cmp_go hrx hry he);have hcf:=fun W=>compareFolded_any x y W hxz
    rw [he] at hcf;have hz:((0:Int) != 0)=false:=rfl;clear he hx hy hrx hry hcell hcell' hc hc' hxs;go_wp2;go_quiet ((go_at_call 143;exact Calls.quiet_of (hcf _)))
    go_wp2;go_roundw
    case rel=>exact⟨k+1,by omega,by omega,by go_num,HN,_,by show _=_;rw [HW.out,World.drewN_drewN]⟩
    case measure=>simp [intOf];omega
   ·have HO:Hid (Nm.cmpLs xs ys=Nm.ordS x y):=HT.out.trans (Nm.cmp_stop hrx hry he);have hcf:=fun W=>compareFolded_any x y W hxz
    have hz:(Nm.ordS x y != 0)=true:=by rw [bne_iff_ne];exact he
    generalize Nm.ordS x y=o at*;clear he hx hy hrx hry hcell hcell' hc hc' hxs;go_wp2;go_quiet ((go_at_call 143;exact Calls.quiet_of (hcf _)))
    go_wp2;go_ret;rw [HO.out];exact⟨rfl,_,by rw [HW.out,World.drewN_drewN]⟩
  ·have HO:Hid (Nm.cmpLs xs ys=Nm.cmpI xs.length ys.length):=by
    show _=_
    rw [HT.out,Nm.cmp_end (by simpa using hka) (by simpa using hkb) (by simp;omega)];simp
   clear hc hc' hxs
   by_cases h2:k<xs.length
   ·have g1:(k:Int)+1<=(xs.length:Int):=by omega
    have g2:(ys.length:Int)<(k:Int)+1:=by omega
    clear h1;go_wp2_with fail
    refine(cmpInt_any _ _ _).mono ?_;rintro e w3 ⟨rfl,rfl⟩;go_wp2;go_ret;rw [HO.out];exact⟨rfl,_,HW.out⟩
   ·have g1:(xs.length:Int)<(k:Int)+1:=by omega
    clear h1;go_wp2_with fail
    refine(cmpInt_any _ _ _).mono ?_;rintro e w3 ⟨rfl,rfl⟩;go_wp2;go_ret;rw [HO.out];exact⟨rfl,_,HW.out⟩
end Go.Proofs.YtfmolgdfjklmpaaGreat
namespace Go.Proofs.YtfmolgdfjklmpaaGreat
open Go.RowKit
set_option linter.unusedVariables false
theorem Tryz.infoRowL:(Tryz.prog.info? 175).map (fun i=>(i.zero,i.size,i.bytes))=some (some (.agg #[.slice none 0 0,.pointer none]),2,32):=by kernel_rfl
theorem shape_ofL{w:World}{b:Nat}{cs:Array Value}{T:TypeId}(h:Blk w b cs T):w.shape? b=some (T,cs.size):=by
 unfold Blk at h;simp [World.shape?,h]
def InsL(B:Nat)(v:Value)(n i:Nat)(xs:List Value)(x0 x1:Value)(w:World)(e:Ending)(w':World):Prop:=
 ∃ u,e=.returned u∧w'.ownsRow B 175 2 u (n+1) (xs.take (i*2)++[x0,x1]++xs.drop (i*2))∧w.grownBy w' v.ownBlock∧(u.ownBlock=v.ownBlock∨∀ g,u.ownBlock=some g->w.heap.size<=g)
set_option maxRecDepth 100000 in
set_option maxHeartbeats 3200000 in
theorem insertL_any(v:Value)(n i:Nat)(xs:List Value)(x0 x1:Value)(vb vc B:Nat)(w:World)(h:w.ownsRow B 175 2 v n xs)(hi:i<=n)(hv:Blk w vb #[x0,x1] 175)(hvb:v.ownBlock≠some vb)
 (h1:∀ u∈xs,u.oneCell'=true) (h0:x0.oneCell'=true) (h0':x1.oneCell'=true) (hn:n<=1000000) (hB:B<=w.heap.size):
 Calls Tryz.prog 177 #[v,.int .i64 (i:Int),.slice (some ⟨vb,0,none⟩) 1 vc] w (InsL B v n i xs x0 x1 w):=by
 obtain⟨i0,hi0,hz0,hz1,hz2⟩:=info_parts Tryz.infoRowL;have hxl:xs.length=n*2:=h.1
 have hcv:∀ (j:Nat) (u:Value),[x0,x1][j]? =some u->w.cell? ((⟨vb,0,none⟩:Addr).add j)=some u:=by
  intro j u hj;rw [Nm.addr_add,Nat.zero_add,blk_cell hv j];simpa using hj
 have hone:∀ u∈[x0,x1],u.oneCell'=true:=by
  intro u hu;simp at hu
  rcases hu with rfl|rfl
  ·exact h0
  ·exact h0'
 by_cases hin:i=n
 ·subst hin
  have hHX:Hid (xs.take (i*2)++[x0,x1]++xs.drop (i*2)=xs++[x0,x1]):=by
   show _=_
   rw [List.take_of_length_le (by omega),List.drop_of_length_le (by omega),List.append_nil]
  rcases h.2 with⟨rfl,hn0⟩|⟨g,cap,cur,rfl,hbg,hg,hnc,hcm,hcs,htk⟩
  ·have hi0':i=0:=hn0;subst hi0';have hcast:((0:Nat):Int)=0:=rfl;rw [hcast];go_enter Tryz.func177,Tryz.ntmps177;go_wp2_with (at_builtin;refine wpList_append_own_at _ rfl (.tmp 23) (.tmp 24) 171 rfl B 175 i0 _ 2 32 Tryz.underlying171 hi0 hz0 hz1 hz2 rfl (by decide) _ _ _ rfl h ⟨vb,0,none⟩ 1 vc [x0,x1] rfl rfl hcv hone (by unfold maxLen;omega) (by omega) hB ?_;intro va wa ho9 hg9 hnl9 hat9)
   go_ret;exact⟨va,rfl,by rw [hHX.out];exact ho9,hg9,by rcases hat9 with h|h;exact .inl h;right;intro g e;rw [h] at e;simp at e;omega⟩
  ·unfold maxLen at hcm
   by_cases hci:cap=i
   all_goals
    go_enter Tryz.func177,Tryz.ntmps177;go_wp2_with (at_builtin;refine wpList_append_own_at _ rfl (.tmp 23) (.tmp 24) 171 rfl B 175 i0 _ 2 32 Tryz.underlying171 hi0 hz0 hz1 hz2 rfl (by decide) _ _ _ rfl h ⟨vb,0,none⟩ 1 vc [x0,x1] rfl rfl hcv hone (by unfold maxLen;omega) (by omega) hB ?_;intro va wa ho9 hg9 hnl9 hat9)
    go_ret;exact⟨va,rfl,by rw [hHX.out];exact ho9,hg9,by rcases hat9 with h|h;exact .inl h;right;intro g e;rw [h] at e;simp at e;omega⟩
 ·have hlt:i<n:=by omega
  rcases h.2 with⟨rfl,hn0⟩|⟨g,cap,cur,rfl,hbg,hg,hnc,hcm,hcs,htk⟩
  ·omega
  ·have hkg:Blk w g cur 175:=hg;have hgv:vb≠g:=fun e=>hvb (by rw [e];rfl)
   have hsz2:(Tryz.prog.info? 175).map (·.size)=some 2:=by rw [hi0];simp [hz1]
   have hsrcx:∀ (W:World),Blk W g cur 175->∀ (j:Nat) (u:Value),(xs.drop (i*2))[j]? =some u->W.cell? ((⟨g,i*2,none⟩:Addr).add j)=some u:=by
    intro W hW j u hj;rw [Nm.addr_add,blk_cell hW];rw [List.getElem?_drop] at hj;have hjl:=(List.getElem?_eq_some_iff.1 hj).1;rw [<- htk,List.getElem?_take_of_lt (by omega)] at hj;simpa using hj
   have hdl:(xs.drop (i*2)).length=(n-i)*2:=by rw [List.length_drop,hxl];omega
   have h1d:∀ u∈xs.drop (i*2),u.oneCell'=true:=fun u hu=>h1 u (List.mem_of_mem_drop hu)
   unfold maxLen at hcm;have z1:¬((i:Int)=(n:Int)):=by omega
   have z2:(0:Int)<=(i:Int):=by omega
   have z3:(i:Int)<=(n:Int):=by omega
   have z4:¬cap=i:=by omega
   have z6:((i:Int)+1).toNat=i+1:=by omega
   by_cases hroom:n+1<=cap
   ·have hov:∀ lb cb,(callFunc 198 #[.slice (some ⟨vb,0,none⟩) 1 vc,.slice (some ⟨g,(i+1)*2,none⟩) lb cb]).run Tryz.prog w=.ok (.value (.bool false)) w:=fun lb cb=>by
     rw [run_callFunc_extern Tryz.func198 (by kernel_rfl) (by kernel_rfl) (by kernel_rfl) (e:=Extern.SlicesOverlaps.overlaps #[171,171] #[4]) (by kernel_rfl),
      Lib.run_overlaps_apart w 171 4 175 Tryz.underlying171 2 (fun w=>by rw [sizeOf];simp [typeInfo,hi0,hz1]) ⟨vb,0,none⟩ ⟨g,(i+1)*2,none⟩ 1 vc lb cb hgv 175 175 2 cur.size (shape_ofL hv) (shape_ofL hkg) (by omega) (frozen_of_row w vb 0 _ _ hv) (frozen_of_row w vb 2 _ _ hv)]
     rfl
    have z5:¬cap=i+1:=by omega
    obtain⟨c1,hc1⟩:∃ c1,c1=cur.toList.take ((i+1)*2)++xs.drop (i*2)++cur.toList.drop ((i+1)*2+(xs.drop (i*2)).length):=⟨_,rfl⟩;obtain⟨hl1,hall⟩:=ins_room x0 x1 (by rw [Array.length_toList,hcs]) htk hlt hroom c1 hc1;obtain⟨c2,hc2⟩:∃ c2,c2=c1.take (i*2)++[x0,x1]++c1.drop (i*2+[x0,x1].length):=⟨_,rfl⟩;obtain⟨hl2,hres⟩:=hall c2 hc2
    have hcp1:∀ ty dc sc,(Builtin.copy_ #[171,171] ty #[.slice (some ⟨g,(i+1)*2,none⟩) (n-i) dc,.slice (some ⟨g,i*2,none⟩) (n+1-i) sc]).run Tryz.prog w.drew=.ok (goInt (Nat.min (n+1-i) (n-i))) (w.drew.setRow g c1.toArray):=fun ty dc sc=>by
     rw [hc1];exact run_copy_rowK w.drew _ _ ty 175 g ((i+1)*2) _ dc ⟨g,i*2,none⟩ _ sc cur 175 (xs.drop (i*2)) 2 Tryz.underlying171 hsz2 hkg (by rw [hdl];simp only [Nat.min_def];split<;>omega) (hsrcx _ hkg) (by rw [hdl,hcs];omega) h1d
    have hk1:Blk (w.drew.setRow g c1.toArray) g c1.toArray 175:=setRow_blk (blk_drew hkg) _
    have hcp2:∀ ty dc,(Builtin.copy_ #[171,171] ty #[.slice (some ⟨g,i*2,none⟩) (n+1-i) dc,.slice (some ⟨vb,0,none⟩) 1 vc]).run Tryz.prog (w.drew.setRow g c1.toArray)=.ok (goInt (Nat.min 1 (n+1-i))) ((w.drew.setRow g c1.toArray).setRow g c2.toArray):=fun ty dc=>by
     rw [hc2]
     exact run_copy_rowK (w.drew.setRow g c1.toArray) _ _ ty 175 g (i*2) _ dc ⟨vb,0,none⟩ 1 vc c1.toArray 175 [x0,x1] 2 Tryz.underlying171 hsz2 hk1 (by simp only [Nat.min_def,List.length_cons,List.length_nil];split<;>omega) (fun j u hj=>by
      rw [World.cell?_of_block (w:=w.drew) (by rw [Nm.addr_add];exact setRow_other w.drew g vb _ hgv)]
      exact hcv j u hj) (by simp only [List.size_toArray,hl1,List.length_cons,List.length_nil];omega) hone
    have X:=Nm.hide (And.intro (own_of_blk (n:=n+1) (cap:=cap) (s:=2) (setRow_blk hk1 c2.toArray) hbg (by omega) hcm (by simp [hl2]) (show c2.toArray.toList.take ((n+1)*2)=xs.take (i*2)++[x0,x1]++xs.drop (i*2) from hres)) (hgr_step (g:=g) ((⟨rfl,rfl,rfl,Nat.le_refl _,fun _ _ _=>rfl⟩:w.grownBy w.drew (some g))) (hgr_step (setRow_grown w.drew g c1.toArray) (setRow_grown _ g c2.toArray))));clear hc1 hc2 hall hres hl1 hl2 hsrcx htk;go_enter Tryz.func177,Tryz.ntmps177;go_wp2;go_region
    all_goals
     go_wp2;go_ret;exact⟨.slice (some ⟨g,0,none⟩) (n+1) cap,rfl,X.out.1,X.out.2,.inl rfl⟩
   ·have hcn:cap=n:=by omega
    obtain⟨GC,hGC⟩:∃ GC,GC=grownCap w (i+(n+1-i)) cap 175:=⟨_,rfl⟩;have hge:n+1<=GC:=by rw [hGC];have:=grownCap_ge w (i+(n+1-i)) cap 175;omega
    have hgm:GC<=maxLen:=by rw [hGC];exact grownCap_le_maxLen w _ cap 175 (by unfold maxLen;omega)
    obtain⟨Z,hZ⟩:∃ Z:List Value,Z=(Builtin.zeroCells (Value.agg #[.slice none 0 0,.pointer none]).cells (n+1-i)++Builtin.zeroCells (Value.agg #[.slice none 0 0,.pointer none]).cells (GC-(n+1))).toList:=⟨_,rfl⟩
    have hzl:(xs.take (i*2)++Z).length=GC*2:=by
     have hzs:(Value.agg #[.slice none 0 0,.pointer none]).cells.size=2:=rfl;have e1:(Builtin.zeroCells (Value.agg #[.slice none 0 0,.pointer none]).cells (n+1-i)).toList.length=(n+1-i)*2:=by rw [Array.length_toList,size_zeroCells,hzs]
     have e2:(Builtin.zeroCells (Value.agg #[.slice none 0 0,.pointer none]).cells (GC-(n+1))).toList.length=(GC-(n+1))*2:=by rw [Array.length_toList,size_zeroCells,hzs]
     rw [hZ,List.length_append,List.length_take,Array.toList_append,List.length_append,e1,e2,hxl];omega
    have hap:∀ ty,(Builtin.append_ #[171,3] ty #[.slice (some ⟨g,0,none⟩) i cap,.int .i64 (((n:Int)+1-(i:Int)))]).run Tryz.prog w=.ok (.slice (some ⟨w.heap.size,0,none⟩) (n+1) GC) (w.drew.alloc (.cells (xs.take (i*2)++Z).toArray 175)):=by
     intro ty
     have hfc:(Builtin.firstCells i0.size i (.slice (some ⟨g,0,none⟩) i cap)).run Tryz.prog w.drew=.ok (xs.take (i*2)).toArray w.drew:=by
      have hl:=run_loadCells_list (P:=Tryz.prog) w.drew ⟨g,0,none⟩ (xs.take (i*2)) (fun j u hj=>by
       rw [Nm.addr_add,blk_cell (blk_drew hkg),Nat.zero_add];rw [List.getElem?_take] at hj
       split at hj
       ·rename_i hji;rw [<- htk,List.getElem?_take_of_lt (by omega)] at hj;simpa using hj
       ·cases hj)
      rw [List.length_take,hxl,Nat.min_eq_left (by omega)] at hl;simp [Builtin.firstCells,hz1,hl]
     have hr:=Lib.run_append_grow_zeros (P:=Tryz.prog) w 171 3 ty 175 i0 _ .i64 .i64 Tryz.underlying171 Tryz.underlying3 hi0 hz0 (some ⟨g,0,none⟩) i cap (xs.take (i*2)) hfc (n+1-i) (by omega) (by omega) (by omega) (by omega) (by rw [hz2];omega) (by rw [hz2];exact growslice_fits (by omega) (by omega));rw [show((n+1-i:Nat):Int)=(n:Int)+1-(i:Int) by omega] at hr;rw [hr,<- hGC,hZ];congr 1
     ·rw [show i+(n+1-i)=n+1 by omega]
     ·rw [show i+(n+1-i)=n+1 by omega];congr 2;rw [Array.append_assoc];apply Array.toList_inj.1;simp
    have hkW:Blk (w.drew.alloc (.cells (xs.take (i*2)++Z).toArray 175)) w.heap.size (xs.take (i*2)++Z).toArray 175:=blk_new w.drew _ _;have hbW:Below w.heap.size w (w.drew.alloc (.cells (xs.take (i*2)++Z).toArray 175)):=(Below.refl _ _).drew.alloc (Nat.le_refl _) _;obtain⟨c1,hc1⟩:∃ c1,c1=(xs.take (i*2)++Z).take (i*2)++[x0,x1]++(xs.take (i*2)++Z).drop (i*2+[x0,x1].length):=⟨_,rfl⟩;obtain⟨hl1,hall⟩:=ins_grow x0 x1 hxl hlt hge hzl c1 hc1;obtain⟨c2,hc2⟩:∃ c2,c2=c1.take ((i+1)*2)++xs.drop (i*2)++c1.drop ((i+1)*2+(xs.drop (i*2)).length):=⟨_,rfl⟩;obtain⟨hl2,hres⟩:=hall c2 hc2;generalize hW0:w.drew.alloc (.cells (xs.take (i*2)++Z).toArray 175)=W0 at*;have hgW0:Blk W0 g cur 175:=blk_below hkg hbW;have hvW0:Blk W0 vb #[x0,x1] 175:=blk_below hv hbW;have hglt:=blk_lt hkg;have hvlt:=blk_lt hv
    have hcp1:∀ ty dc,(Builtin.copy_ #[171,171] ty #[.slice (some ⟨w.heap.size,i*2,none⟩) (n+1-i) dc,.slice (some ⟨vb,0,none⟩) 1 vc]).run Tryz.prog W0=.ok (goInt (Nat.min 1 (n+1-i))) (W0.setRow w.heap.size c1.toArray):=fun ty dc=>by
     rw [hc1]
     exact run_copy_rowK W0 _ _ ty 175 w.heap.size (i*2) _ dc ⟨vb,0,none⟩ 1 vc _ 175 [x0,x1] 2 Tryz.underlying171 hsz2 hkW (by simp only [Nat.min_def,List.length_cons,List.length_nil];split<;>omega) (fun j u hj=>by
      rw [Nm.addr_add,blk_cell hvW0,Nat.zero_add]
      simpa using hj) (by simp only [List.size_toArray,hzl,List.length_cons,List.length_nil];omega) hone
    have hk1:Blk (W0.setRow w.heap.size c1.toArray) w.heap.size c1.toArray 175:=setRow_blk hkW _
    have hg1:Blk (W0.setRow w.heap.size c1.toArray).drew g cur 175:=by
     unfold Blk
     show(W0.setRow w.heap.size c1.toArray).heap[g]? =_
     rw [setRow_other W0 _ g _ (by omega)];exact hgW0
    have hcp2:∀ ty dc sc,(Builtin.copy_ #[171,171] ty #[.slice (some ⟨w.heap.size,(i+1)*2,none⟩) (n-i) dc,.slice (some ⟨g,i*2,none⟩) (n-i) sc]).run Tryz.prog (W0.setRow w.heap.size c1.toArray).drew=.ok (goInt (Nat.min (n-i) (n-i))) ((W0.setRow w.heap.size c1.toArray).drew.setRow w.heap.size c2.toArray):=fun ty dc sc=>by
     rw [hc2];exact run_copy_rowK (W0.setRow w.heap.size c1.toArray).drew _ _ ty 175 w.heap.size ((i+1)*2) _ dc ⟨g,i*2,none⟩ _ sc c1.toArray 175 (xs.drop (i*2)) 2 Tryz.underlying171 hsz2 (blk_drew hk1) (by rw [hdl];simp only [Nat.min_def];split<;>omega) (hsrcx _ hg1) (by rw [hdl];simp only [List.size_toArray,hl1];omega) h1d
    have X:=Nm.hide (And.intro (own_of_blk (B:=B) (n:=n+1) (cap:=GC) (s:=2) (setRow_blk (blk_drew hk1) c2.toArray) hB hge hgm (by simp [hl2]) (show c2.toArray.toList.take ((n+1)*2)=xs.take (i*2)++[x0,x1]++xs.drop (i*2) from hres)) (show w.grownBy ((W0.setRow w.heap.size c1.toArray).drew.setRow w.heap.size c2.toArray) (some g) from by
     refine⟨hbW.os,hbW.tape,hbW.output,?_,fun k hk hne=>?_⟩
     ·rw [setRow_size];show w.heap.size<=(W0.setRow w.heap.size c1.toArray).heap.size
      rw [setRow_size];exact hbW.size
     ·rw [setRow_other _ _ k _ (by omega)]
      show(W0.setRow w.heap.size c1.toArray).heap[k]? =_
      rw [setRow_other _ _ k _ (by omega)]
      exact hbW.block k hk))
    have y1:¬GC=i:=by omega
    have y2:¬GC=i+1:=by omega
    have y3:¬n+1<=cap:=by omega
    have y4:(cap:Int)<(n:Int)+1:=by omega
    have y5:IntKind.i64.wrap ((i:Int)+1)=(i:Int)+1:=by rw [IntKind.wrap_i64];omega
    have y6:(0:Int)<=(i:Int)+1:=by omega
    have y7:(i:Int)+1<=(n:Int)+1:=by omega
    unfold maxLen at hgm;clear hc1 hc2 hall hres hl1 hl2 hsrcx htk hGC hZ hzl hW0 hg1 hk1 hkW hbW hgW0 hvW0 hroom hcn;go_enter Tryz.func177,Tryz.ntmps177;go_wp2_with (at_builtin;refine wpList_app_ranT rfl (.tmp 34) (.tmp 39) 171 3 rfl _ _ _ _ rfl rfl (hap _) ?_;clear hap)
    go_region
    all_goals
     go_wp2;go_ret;exact⟨.slice (some ⟨w.heap.size,0,none⟩) (n+1) GC,rfl,X.out.1,X.out.2,.inr (fun g' e=>by simp [Value.ownBlock] at e;omega)⟩
end Go.Proofs.YtfmolgdfjklmpaaGreat
namespace Go.Proofs.YtfmolgdfjklmpaaGreat
open Go Go.Maps Go.MapKept Go.ChangeMaps
set_option linter.unusedVariables false
abbrev SK:Type:=ByteArray×Int
abbrev skV(k:SK):Value:=.agg #[.string k.1,.int .i64 k.2]
def SFit(k:SK):Prop:=k.1.size<=maxLen∧(Lit.int .i64 k.2).wf=true
theorem skV_inj{a b:SK}(h:skV a=skV b):a=b:=by
 cases a;cases b
 simp [skV] at h
 obtain⟨rfl,rfl⟩:=h;rfl
theorem sk_laidOut:laidOutB Tryz.prog=true:=by kernel_rfl
theorem sk_law:Keyed Tryz.prog 144:=Keyed.of_law (deep_law_laid sk_laidOut (m:=3) (by omega) (of_decide_eq_true (by kernel_rfl)) (by kernel_rfl) (by kernel_rfl))
theorem sk_key{k:SK}(h:SFit k):∃ l,keyOf Tryz.prog 144 (skV k)=some l:=by
 obtain⟨h1,h2⟩:=h;have hk:Tryz.prog.keyType 144=true:=by kernel_rfl
 have hc:Tryz.prog.cellsOf 144=2:=by kernel_rfl
 have hs:Tryz.prog.cellsOf 9=1:=by kernel_rfl
 have hi:Tryz.prog.cellsOf 2=1:=by kernel_rfl
 have hu:=Tryz.underlying144;have us:=Tryz.underlying9;have ui:=Tryz.underlying2
 obtain⟨m,hm⟩:∃ m,Tryz.prog.types.size=m+1:=⟨Tryz.prog.types.size-1,by
  have:0<Tryz.prog.types.size:=of_decide_eq_true (by kernel_rfl)
  omega⟩
 have hf:(skV k).formed Tryz.prog 144=true:=by simp [Value.formed,hu,hc]
 have hl:∃ ls,Tryz.prog.keyLits (Tryz.prog.types.size+1) 144 (skV k).cells.toList=some ls:=by
  rw [hm];simp [Program.keyLits,hu,hc,us,ui,hs,hi,Value.cells,h1,h2]
 obtain⟨ls,hls⟩:=hl;unfold keyOf;rw [hu];simp only
 rw [hk,hf,hls];exact⟨_,rfl⟩
def kmV(p:SK×Value):Value×Value:=(skV p.1,p.2)
def KMap(w:World)(r:Nat)(L:List (SK×Value)):Prop:=∃ es:Array MapEntry,w.heap[r]? =some (.map es es.size)∧es.toList.map (fun e=>(e.key,e.val))=L.map kmV∧(∀ (i:Nat) (e:MapEntry),es[i]? =some e->e.born=i)∧(∀ p∈L,SFit p.1)∧(L.map (·.1)).Nodup
theorem kmap_made(w:World):KMap (w.alloc (.map #[] 0)) w.heap.size []:=
 ⟨#[],by show(w.heap.push _)[w.heap.size]? =_;simp,rfl,by simp,by simp,by simp⟩
theorem kgrown_block(w:World)(r:Nat)(o:Obj):w.grownBy (setBlock w r o) (some r):=
 ⟨rfl,rfl,rfl,by simp [setBlock],fun k hk hne=>by simp only [setBlock];rw [Array.getElem?_setIfInBounds_ne (fun e=>hne (by rw [e]))]⟩
section
variable {w:World}{r:Nat}{L:List (SK×Value)}{t e:TypeId}
theorem KMap.lt(h:KMap w r L):r<w.heap.size:=by
 obtain⟨es,hb,_⟩:=h;exact(Array.getElem?_eq_some_iff.1 hb).1
theorem KMap.kept{w':World}(h:KMap w r L)(hb:w'.heap[r]? =w.heap[r]?):KMap w' r L:=by
 obtain⟨es,h1,h2⟩:=h;exact⟨es,hb.trans h1,h2⟩
theorem km_at{es:Array MapEntry}(h:es.toList.map (fun e=>(e.key,e.val))=L.map kmV){j:Nat}{x:MapEntry}(hx:es.toList[j]? =some x):∃ p,L[j]? =some p∧x.key=skV p.1∧x.val=p.2:=by
 have:=congrArg (fun l=>l[j]?) h;simp only [List.getElem?_map,hx,Option.map_some] at this
 cases e:L[j]? with
 |none=>rw [e] at this;cases this
 |some p=>
  rw [e] at this;simp only [Option.map_some,kmV,Option.some.injEq,Prod.mk.injEq] at this;exact⟨p,rfl,this.1,this.2⟩
theorem km_len{es:Array MapEntry}(h:es.toList.map (fun e=>(e.key,e.val))=L.map kmV):es.size=L.length:=by
 have:=congrArg List.length h;simpa using this
theorem born_nd{es:Array MapEntry}(h:∀ (i:Nat) (e:MapEntry),es[i]? =some e->e.born=i):(es.toList.map (·.born)).Nodup:=by
 have e:es.toList.map (·.born)=List.range es.size:=by
  apply List.ext_getElem?;intro i;rw [List.getElem?_map]
  rcases Nat.lt_or_ge i es.size with hi|hi
  ·have h1:es.toList[i]? =some es[i]:=by simp [hi]
   rw [h1,List.getElem?_range hi,Option.map_some,h i es[i] (by simp [hi])]
  ·rw [List.getElem?_eq_none (by simpa using hi),List.getElem?_eq_none (by simpa using hi)];rfl
 rw [e];exact List.nodup_range
theorem KMap.entry(h:KMap w r L)(ht:Tryz.prog.underlying t=some (.map 144 e))(hz:∀ u:World,(zeroValue e).run Tryz.prog u=.ok (.slice none 0 0) u){x:SK}(hx:SFit x):
 ∃ (v:Value) (j:Nat) (w':World) (L':List (SK×Value)),(Instr.mapEntry t (.map (some r)) (skV x)).run Tryz.prog w=.ok (.tuple #[v,.int .i64 (j:Int)]) w'∧w.grownBy w' (some r)∧w'.heap.size=w.heap.size∧KMap w' r L'∧L'[j]? =some (x,v)∧(L'=L∨((∀ p∈L,p.1≠x)∧j=L.length∧v=.slice none 0 0∧L'=L++[(x,.slice none 0 0)])):=by
 have K:=sk_law;obtain⟨kl,hkey⟩:=sk_key hx;have hlt:=h.lt;obtain⟨es,hb,hes,hbo,hwf,hnd⟩:=h;have hlen:=km_len hes
 rcases K.find w hkey es.toList (fun y hy=>by
  obtain⟨j,hj,rfl⟩:=List.mem_iff_getElem.1 hy;obtain⟨p,hp,h1,_⟩:=km_at hes (List.getElem?_eq_getElem hj);rw [h1]
  exact sk_key (hwf p (List.mem_of_getElem? hp))) with⟨h1,h2⟩|⟨j,e0,h1,h2,h3⟩
 ·have hno:∀ p∈L,p.1≠x:=by
   intro p hp e1;obtain⟨j,hj,rfl⟩:=List.mem_iff_getElem.1 hp;have hje:j<es.size:=by omega
   obtain⟨q,hq,h4,_⟩:=km_at hes (j:=j) (x:=es[j]) (by simp [hje]);rw [List.getElem?_eq_getElem hj] at hq;obtain rfl:=Option.some.inj hq;exact h2 es[j] (by simp) (by rw [h4,e1])
  refine⟨.slice none 0 0,es.size,setBlock w r (.map (es.push ⟨skV x,.slice none 0 0,es.size⟩) (es.size+1)),L++[(x,.slice none 0 0)],?_,kgrown_block _ _ _,by simp [setBlock],⟨es.push ⟨skV x,.slice none 0 0,es.size⟩,?_,?_,?_,?_,?_⟩,?_,.inr ⟨hno,hlen,rfl,rfl⟩⟩
  ·simp [Instr.mapEntry,run_underlying ht,MapKept.run_getObj_map hb,K.check w false hkey,h1,hz,MapKept.run_setObj_map _ hb,Result.andThen,setBlock,goInt]
  ·simp [setBlock,hlt]
  ·rw [Array.toList_push,List.map_append,hes,List.map_append];rfl
  ·intro i e hi;rw [Array.getElem?_push] at hi
   split at hi
   ·rename_i hs;obtain rfl:=Option.some.inj hi;exact hs.symm
   ·exact hbo i e hi
  ·intro p hp
   rcases List.mem_append.1 hp with hp|hp
   ·exact hwf p hp
   ·simp at hp;subst hp;exact hx
  ·rw [List.map_append,List.nodup_append];refine⟨hnd,by simp,?_⟩;intro a ha b hb2;simp at hb2;subst hb2;obtain⟨p,hp,rfl⟩:=List.mem_map.1 ha;exact hno p hp
  ·rw [hlen];simp
 ·have hj:es[j]? =some e0:=by simpa using h2
  obtain⟨p,hp,h4,h5⟩:=km_at hes h2;have hpx:p.1=x:=skV_inj (h4.symm.trans h3)
  have hsame:es.modify j (fun e=>{e with key:=skV x})=es:=by
   apply Array.ext';rw [Array.toList_modify,Go.ChangeMaps.modify_eq_set _ _ _ _ h2];have:({e0 with key:=skV x}:MapEntry)=e0:=by rw [<- h3]
   rw [this];exact Go.WideElems.set_self _ _ _ h2
  refine⟨e0.val,j,setBlock w r (.map es es.size),L,?_,kgrown_block _ _ _,by simp [setBlock],⟨es,by simp [setBlock,hlt],hes,hbo,hwf,hnd⟩,?_,.inl rfl⟩
  ·simp [Instr.mapEntry,run_underlying ht,MapKept.run_getObj_map hb,K.check w false hkey,h1,hj,h3,K.stays w hkey,hsame,MapKept.run_setObj_map _ hb,Result.andThen,setBlock,goInt,hbo j e0 hj]
  ·rw [hp,h5,<- hpx]
theorem KMap.store(h:KMap w r L){j:Nat}{x:SK}{v0:Value}(hj:L[j]? =some (x,v0))(v:Value):
 ∃ w',(Instr.entryStore t (.map (some r)) (.int .i64 (j:Int)) v).run Tryz.prog w=.ok () w'∧w.grownBy w' (some r)∧w'.heap.size=w.heap.size∧KMap w' r (L.set j (x,v)):=by
 have hlt:=h.lt;obtain⟨es,hb,hes,hbo,hwf,hnd⟩:=h;have hlen:=km_len hes;have hjl:j<L.length:=(List.getElem?_eq_some_iff.1 hj).1;have hje:j<es.size:=by omega
 obtain⟨e0,h2⟩:∃ e0,es[j]? =some e0:=⟨es[j],by simp [hje]⟩;have h2l:es.toList[j]? =some e0:=by simpa using h2
 obtain⟨p,hp,h4,h5⟩:=km_at hes h2l;rw [hj] at hp;obtain rfl:=Option.some.inj hp
 have hidx:es.findIdx? (fun e=>((e.born:Nat):Int)==((j:Nat):Int))=some j:=by
  rw [Go.WideElems.findIdx_arr];have:=Go.WideElems.findIdx_born (born_nd hbo) h2l
  rwa [hbo j e0 h2] at this
 refine⟨setBlock w r (.map (es.modify j fun e=>{e with val:=v}) (es.modify j fun e=>{e with val:=v}).size),?_,kgrown_block _ _ _,by simp [setBlock],⟨es.modify j (fun e=>{e with val:=v}),by simp [setBlock,hlt],?_,?_,?_,?_⟩⟩
 ·simp [Instr.entryStore,MapKept.run_getObj_map hb,asInt,asIntOf,hidx,MapKept.run_setObj_map _ hb,Result.andThen,setBlock]
 ·rw [Array.toList_modify,Go.ChangeMaps.modify_eq_set _ _ _ _ h2l,List.map_set,List.map_set,hes];rw [h4];rfl
 ·intro i e hi;rw [Array.getElem?_modify] at hi
  split at hi
  ·rename_i hij;subst hij;rw [h2] at hi;simp at hi;subst hi;exact hbo j e0 h2
  ·exact hbo i e hi
 ·intro p hp
  rcases List.mem_or_eq_of_mem_set hp with hp|rfl
  ·exact hwf p hp
  ·exact hwf (x,v0) (List.mem_of_getElem? hj)
 ·rw [List.map_set];have:(L.map (·.1)).set j x=L.map (·.1):=Go.WideElems.set_self _ _ _ (by rw [List.getElem?_map,hj];rfl);rw [this];exact hnd
theorem KMap.next(h:KMap w r L)(ty:TypeId){it c0:Nat}{seen:Array Nat}(hi:w.heap[it]? =some (.mapIter (some r) L.length seen c0))(hc:L.length<=c0)(hne:r≠it):
 ((∀ i,i<L.length->i∈seen.toList)∧(Instr.next (.pointer (some ⟨it,0,none⟩)) false ty).run Tryz.prog w=.ok (.tuple #[.bool false]) w)∨
 ∃ (i:Nat) (x:SK) (v:Value) (w':World),L[i]? =some (x,v)∧i∉seen.toList∧(Instr.next (.pointer (some ⟨it,0,none⟩)) false ty).run Tryz.prog w=.ok (.tuple #[.bool true,skV x,v]) w'∧w.grownBy w' (some it)∧w'.heap.size=w.heap.size∧KMap w' r L∧w'.heap[it]? =some (.mapIter (some r) L.length (seen.push i) L.length)∧(Instr.entry (.pointer (some ⟨it,0,none⟩))).run Tryz.prog w'=.ok (.tuple #[skV x,v]) w':=by
 have hK:=h;obtain⟨es,hb,hes,hbo,hwf,hnd⟩:=h;have hlen:=km_len hes;have hit:it<w.heap.size:=(Array.getElem?_eq_some_iff.1 hi).1
 have hall:∀ x∈es.toList,x.born<L.length:=by
  intro x hx;obtain⟨i,hi2,rfl⟩:=List.mem_iff_getElem.1 hx;have:=hbo i es.toList[i] (by simp);simp at hi2;omega
 rcases run_next_at (P:=Tryz.prog) w ty it r L.length c0 seen es es.size hi hb hall hc with⟨h0,hrun⟩|⟨e0,he,w1,hw1,hrun⟩
 ·refine .inl ⟨fun i hil=>?_,hrun⟩;have hie:i<es.size:=by omega
  have hm:es[i]∈es.toList:=by simp
  rcases Classical.em (i∈seen.toList) with hs|hs
  ·exact hs
  ·exfalso
   have:es[i]∈(leftOf es seen).toList:=by
    simp only [leftOf,Array.toList_filter,List.mem_filter];refine⟨hm,?_⟩;rw [hbo i es[i] (by simp [hie])];simpa using hs
   have h9:=List.length_pos_of_mem this;simp only [Array.length_toList] at h9;omega
 ·simp only [leftOf,Array.toList_filter,List.mem_filter] at he;obtain⟨i,hil,hie⟩:=List.mem_iff_getElem.1 he.1;have hil2:i<es.size:=by simpa using hil
  have hei:es.toList[i]? =some e0:=by rw [List.getElem?_eq_getElem hil,hie]
  have hborn:e0.born=i:=hbo i e0 (by simpa using hei);obtain⟨p,hp,h4,h5⟩:=km_at hes hei;have h1e:w1.heap=w.heap:=by rcases hw1 with rfl|rfl<;>rfl
  have hit1:it<w1.heap.size:=by rw [h1e];exact hit
  have hW:w.grownBy (setBlock w1 it (.mapIter (some r) L.length (seen.push e0.born) es.size)) (some it):=by
   have g:=kgrown_block w1 it (.mapIter (some r) L.length (seen.push e0.born) es.size)
   rcases hw1 with rfl|rfl
   ·exact g
   ·exact⟨g.os,g.tape,g.output,g.size,g.block⟩
  have hbw:(setBlock w1 it (.mapIter (some r) L.length (seen.push e0.born) es.size)).heap[r]? =some (.map es es.size):=(hW.block r hK.lt (by simpa using hne)).trans hb;have hiw:(setBlock w1 it (.mapIter (some r) L.length (seen.push e0.born) es.size)).heap[it]? =some (.mapIter (some r) L.length (seen.push e0.born) es.size):=by simp [setBlock,hit1]
  refine .inr ⟨i,p.1,p.2,_,hp,?_,by rw [hrun,h4,h5],hW,by simp [setBlock,h1e],hK.kept (hW.block r hK.lt (by simpa using hne)),by rw [hiw,hborn,hlen],?_⟩
  ·have:=he.2;rw [hborn] at this;simpa using this
  ·rw [run_entry_at _ it r L.length seen es es.size e0 hiw hbw he.1 (born_nd hbo),h4,h5]
end
end Go.Proofs.YtfmolgdfjklmpaaGreat
namespace Go.Proofs.YtfmolgdfjklmpaaGreat
open Go.RowKit
theorem Tryz.infoU8d:(Tryz.prog.info? 5).map (fun i=>(i.zero,i.size,i.bytes))=some (some (.int .u8 0),1,1):=by kernel_rfl
theorem conv_emptyd(c:Nat)(W:World):(convert 22 9 (.slice (some ⟨c,0,none⟩) 0 0)).run Tryz.prog W=.ok (.string ByteArray.empty) W:=
 run_convert_bytes_back W 22 9 5 ⟨c,0,none⟩ 0 [] Tryz.underlying22 Tryz.underlying5 Tryz.underlying9 (by intro j hj;simp at hj)
theorem byte_of_int{r:Int}(h0:0<=r)(h1:r<256):∃ c:UInt8,(c.toNat:Int)=r:=by
 refine⟨UInt8.ofNat r.toNat,?_⟩;simp
 omega
set_option maxRecDepth 100000 in
set_option maxHeartbeats 800000 in
theorem l01Bytes_any(g:Nat)(a:Option Addr)(n cap:Nat)(N:Int)(w:World)(h:Src w g a n cap)(hN0:0<=N)(hN:N<=1048576):
 Calls Tryz.prog 99 #[.pointer (some ⟨g,0,none⟩),.int .i64 N] w fun e w'=>∃ s:ByteArray,e=.returned (.string s)∧(s.size:Int)=N∧Src w' g a n cap∧w.grownBy w' (some g):=by
 obtain⟨j0,hj,k0,k1,k2⟩:=info_parts Tryz.infoU8d;obtain⟨m,rfl⟩:=Int.eq_ofNat_of_zero_le hN0;have hcd:=src_code h
 by_cases hz:m=0
 ·subst hz;have hcv:=fun W=>conv_emptyd w.heap.size W
  go_enter Tryz.func99,Tryz.ntmps99;go_wp2
  go_loop [5,6] (fun v i=>v=.slice (some ⟨w.heap.size,0,none⟩) 0 0∧i=.int .i64 0) (fun _ _=>0)
  case atStart=>exact⟨rfl,rfl⟩
  case round=>
   obtain⟨rfl,rfl⟩:=hrel;go_wp2;go_ret;exact⟨ByteArray.empty,rfl,rfl,src_below h ((Below.refl _ _).alloc (Nat.le_refl _) _),grown_alloc (World.grownBy.refl _ _) _⟩
 ·go_enter Tryz.func99,Tryz.ntmps99;go_wp2
  go_loopw [5,6] (fun v i wr=>∃ (k:Nat) (l:List UInt8),k<=m∧i=.int .i64 k∧wr.ownsRow w.heap.size 5 1 v k (Nm.bys l)∧Src wr g a n cap∧w.grownBy wr (some g))
   (fun _ i _=>m-(intOf i).toNat)
  case atStart=>exact⟨0,[],Nat.zero_le _,rfl,World.ownsRow_made w #[] 0 (Nat.le_refl _) (by decide) rfl,src_below h ((Below.refl _ _).alloc (Nat.le_refl _) _),grown_alloc (World.grownBy.refl _ _) _⟩
  case round=>
   obtain⟨k,l,hk,rfl,hown,hsrc,hgr⟩:=hrel;have hsz:=hgr.size;clear h
   by_cases hlt:k<m
   ·go_wp2_with (first|(go_at_call 26;refine(l01Next_any g a n cap 256 _ hsrc (by decide)).mono ?_;rintro e w3 ⟨r,rfl,hr0,hr1,hsrc3,hgr3⟩;have hr2:=hr1 (by decide);obtain⟨c,hc⟩:=byte_of_int hr0 hr2;subst hc;have hown3:=hown.kept hgr3 (row_src hown hsrc (by decide));have hg3:=grown_step hgr hgr3;have hsz3:=hg3.size;clear hr1)|(at_builtin;refine wpList_append_own _ rfl (.tmp 13) (.tmp 17) 22 rfl w.heap.size 5 j0 (.int .u8 0) 1 1 Tryz.underlying22 hj k0 k1 k2 rfl (by decide) _ _ _ rfl (hown3.alloc _) ⟨w3.heap.size,0,none⟩ 1 1 [.int .u8 (c.toNat:Int)] rfl rfl (cell_one_new _ _ _) (Nm.one_cell _ rfl) (by unfold maxLen;omega) (by omega) (by simp;omega) ?_;intro vb wb hown4 hgrow4 hnl4;clear hnl4;have hrow:∀ q,Value.ownBlock _=some q->w.heap.size<=q:=fun q hq=>(hown3.lt q hq).1;have hs4:=src_grown (src_below hsrc3 ((Below.refl _ _).alloc (Nat.le_refl _) _)) hgrow4 hrow hcd.2 hcd.1;have hg4:=grown_own (grown_alloc hg3 _) hgrow4 hrow;rw [Nm.bys_mark,<- Nm.bys_append] at hown4;clear hgrow4 hown3))
    go_roundw
    case rel=>exact⟨k+1,_,by omega,by go_num,hown4,hs4,hg4⟩
    case measure=>simp [intOf];omega
   ·have hke:k=m:=by omega
    subst hke;have hll:l.length=k:=by have:=hown.1;rw [Nm.bys_length] at this;omega
    obtain⟨g6,cp6,rfl,hcv⟩:=Nm.conv_own (P:=Tryz.prog) Tryz.underlying22 Tryz.underlying5 Tryz.underlying9 hown (by omega);have hms:=mk_size l;clear hown hlt;go_wp2;go_ret;exact⟨_,rfl,by rw [hms];omega,hsrc,hgr⟩
end Go.Proofs.YtfmolgdfjklmpaaGreat
namespace Go.Proofs.YtfmolgdfjklmpaaGreat
open Go.RowKit
set_option maxRecDepth 100000 in
set_option maxHeartbeats 1600000 in
theorem l01LabelV_any(g:Nat)(a:Option Addr)(n cap:Nat)(w:World)(h:Src w g a n cap):
 Calls Tryz.prog 101 #[.pointer (some ⟨g,0,none⟩)] w fun e w'=>∃ s:ByteArray,e=.returned (.string s)∧(1<=s.size∧s.size<=4)∧Src w' g a n cap∧w.grownBy w' (some g):=by
 have hcv:=fun(x:Int) (W:World)=>conv_one x W
 have hs1:∀ c:UInt8,(ByteArray.mk #[c]).size=1:=fun _=>rfl
 have hs2:(ByteArray.mk #[110,115]).size=2:=rfl;go_enter Tryz.func101,Tryz.ntmps101;go_wp2_with fail
 refine(l01Next_any g a n cap 12 _ h (by decide)).mono ?_;rintro e w1 ⟨r,rfl,hr0,hr1,hsrc,hgr⟩;have hr2:=hr1 (by decide);clear hr1 h
 rcases(by omega:r=0∨r=1∨r=2∨r=3∨r=4∨r=5∨6<=r) with rfl|rfl|rfl|rfl|rfl|rfl|h6
 ·go_wp2;go_ret;exact⟨_,rfl,⟨by decide,by decide⟩,hsrc,hgr⟩
 ·go_wp2_with (first|(go_at_call 26;refine(l01Next_any g a n cap 4 _ hsrc (by decide)).mono ?_;rintro e w2 ⟨q,rfl,hq0,hq1,hsrc2,hgr2⟩;have hq2:=hq1 (by decide);clear hq1)|(go_at_call 99;refine(l01Bytes_any g a n cap (1+q) _ hsrc2 (by omega) (by omega)).mono ?_;rintro e w3 ⟨s3,rfl,hs3,hsrc3,hgr3⟩))
  go_ret;exact⟨_,rfl,⟨by omega,by omega⟩,hsrc3,grown_step (grown_step hgr hgr2) hgr3⟩
 ·go_wp2;go_ret;exact⟨_,rfl,⟨by decide,by decide⟩,hsrc,hgr⟩
 ·go_wp2;go_ret;exact⟨_,rfl,⟨by decide,by decide⟩,hsrc,hgr⟩
 ·go_wp2;go_ret;exact⟨_,rfl,⟨by decide,by decide⟩,hsrc,hgr⟩
 ·go_wp2_with (go_at_call 26;refine(l01Next_any g a n cap 3 _ hsrc (by decide)).mono ?_;rintro e w2 ⟨q,rfl,hq0,hq1,hsrc2,hgr2⟩;have hq2:=hq1 (by decide);clear hq1)
  go_ret;exact⟨_,rfl,⟨by rw [ByteArray.size_append,hs2,hs1];decide,by rw [ByteArray.size_append,hs2,hs1];decide⟩,src_below hsrc2 ((Below.refl _ _).alloc (Nat.le_refl _) _),grown_alloc (grown_step hgr hgr2) _⟩
 ·go_wp2_with (go_at_call 26;refine(l01Next_any g a n cap 4 _ hsrc (by decide)).mono ?_;rintro e w2 ⟨q,rfl,hq0,hq1,hsrc2,hgr2⟩;have hq2:=hq1 (by decide);clear hq1)
  go_ret;exact⟨_,rfl,⟨by rw [hs1];decide,by rw [hs1];decide⟩,src_below hsrc2 ((Below.refl _ _).alloc (Nat.le_refl _) _),grown_alloc (grown_step hgr hgr2) _⟩
end Go.Proofs.YtfmolgdfjklmpaaGreat
