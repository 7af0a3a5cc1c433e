import Derived.Test.YtmdinnjimioffaaGreatJFoldD
import Derived.Test.YtmdinnjimioffaaGreatJTrP
import Derived.Test.YtmdinnjimioffaaGreatJSameM
import Derived.RangeFuncBox
import Derived.Maps.AppendAt
import Derived.Test.YtmdinnjimioffaaGreatJOrdL
namespace Go.Proofs.YtmdinnjimioffaaGreat
open Go.RowKit
set_option linter.unusedVariables false
theorem getSet_any(o:GOw)(B:Nat)(ty:Int)(w:World)(h:OwAt w B o)(hl:o.ss.length<=500000)(hd:SeS o.ss):
 Calls Tryz.prog 101 #[ptr o.hd,.int .i64 ty] w fun e w'=>Below w.heap.size w w'∧
  ((isIn (sCmp ty) o.ss=true∧∃ s,o.ss[posOf (sCmp ty) o.ss]? =some s∧s.ty=ty∧e=.returned (.tuple #[ptr s.blk,.bool true]))∨(isIn (sCmp ty) o.ss=false∧e=.returned (.tuple #[.pointer none,.bool false]))):=by
 have hdl:(seRs o.ss).length=o.ss.length:=by simp [seRs]
 have hcf:∀ (tb i:Nat) (p:Value×Value),(seRs o.ss)[i]? =some p->∀ W,Below w.heap.size w W->Blk W tb #[.pointer (some ⟨o.hd,0,none⟩)] 106->Calls Tryz.prog 145 #[.agg #[p.1,p.2],.int .i64 ty,.pointer (some ⟨tb,0,none⟩)] W fun e w'=>e=.returned (.int .i64 (cfOf (sCmp ty) o.ss i))∧Below W.heap.size W w':=by
  intro tb i p hp W hW kb;simp only [seRs,List.getElem?_map,Option.map_eq_some_iff] at hp;obtain⟨q,hq,rfl⟩:=hp;rw [cfOf_at hq];exact place1I_any tb o.hd o.rv (ptr q.blk) q.ty ty W kb (blk_below h.head hW)
 have hmono:=mono_of_pair (f:=sCmp ty) hd (fun a b hab hb=>by
  rw [sCmp,cmpI_neg] at hb ⊢
  omega)
 have hfnd:=posOf_fnd o.ss hmono
 cases hin:isIn (sCmp ty) o.ss with
 |true=>
  obtain⟨x,hx,hx0⟩:=isIn_some hin;have hx':(seRs o.ss)[posOf (sCmp ty) o.ss]? =some (.int .i64 x.ty,ptr x.blk):=by simp [seRs,hx]
  refine(getI_in o.hd B cmpIv o.rv (.int .i64 ty) (seRs o.ss) (cfOf (sCmp ty) o.ss) (posOf (sCmp ty) o.ss) _ w h.head h.rows (by omega) hcf (by rw [hdl];exact hmono) (by rw [hdl];exact hfnd) hx' (by rw [cfOf_at hx];exact hx0)).mono ?_;rintro e w' ⟨rfl,hb⟩
  exact⟨hb,.inl ⟨rfl,x,hx,cmpI_zero hx0,rfl⟩⟩
 |false=>
  refine(getI_out o.hd B cmpIv o.rv (.int .i64 ty) (seRs o.ss) (cfOf (sCmp ty) o.ss) (posOf (sCmp ty) o.ss) w h.head h.rows (by omega) hcf (by rw [hdl];exact hmono) (by rw [hdl];exact hfnd) (by rw [hdl];exact isIn_not hin)).mono ?_;rintro e w' ⟨rfl,hb⟩;exact⟨hb,.inr ⟨rfl,rfl⟩⟩
set_option maxHeartbeats 800000 in
theorem ownerHas_any(o:GOw)(B:Nat)(ty:Int)(w:World)(h:OwAt w B o)(hl:o.ss.length<=500000)(hd:SeS o.ss):
 Calls Tryz.prog 94 #[ptr o.blk,.int .i64 ty] w fun e w'=>e=.returned (.bool (isIn (sCmp ty) o.ss))∧Below w.heap.size w w':=by
 have hg:=getSet_any o B ty w h hl hd;have rn:=fun i=>blk_cell h.node i
 unfold ptr at*;go_enter Tryz.func94,Tryz.ntmps94;go_wp2_with fail
 refine hg.mono ?_;rintro e w' ⟨hb,⟨hin,s,_,_,rfl⟩|⟨hin,rfl⟩⟩
 ·have HIN:=Nm.hide hin;clear hin hg;go_wp2;go_ret;exact⟨by rw [HIN.out];rfl,hb⟩
 ·have HIN:=Nm.hide hin;clear hin hg;go_wp2;go_ret;exact⟨by rw [HIN.out];rfl,hb⟩
theorem getOwner_any(th:Nat)(rv:Value)(os:List GOw)(B:Nat)(nv:Value)(lab:List ByteArray)(w:World)(h:TrAt w B th rv os)(hl:os.length<=500000)(hd:OwS os)(hLab:LabAt w (fpT th rv os) os)(hn:Nm.SRow w nv lab)(hnl:lab.length<=1000000000):
 Calls Tryz.prog 125 #[ptr th,nv] w fun e w'=>Below w.heap.size w w'∧
  ((isIn (oCmp lab) os=true∧∃ o,os[posOf (oCmp lab) os]? =some o∧Nm.cmpLs o.lab lab=0∧e=.returned (.tuple #[ptr o.blk,.bool true]))∨(isIn (oCmp lab) os=false∧e=.returned (.tuple #[.pointer none,.bool false]))):=by
 have hdl:(owRs os).length=os.length:=by simp [owRs]
 have hcf:∀ (tb i:Nat) (p:Value×Value),(owRs os)[i]? =some p->∀ W,Below w.heap.size w W->Blk W tb #[.pointer (some ⟨th,0,none⟩)] 68->Calls Tryz.prog 152 #[.agg #[p.1,p.2],nv,.pointer (some ⟨tb,0,none⟩)] W fun e w'=>e=.returned (.int .i64 (cfOf (oCmp lab) os i))∧Below W.heap.size W w':=by
  intro tb i p hp W hW kb;simp only [owRs,List.getElem?_map,Option.map_eq_some_iff] at hp;obtain⟨q,hq,rfl⟩:=hp;rw [cfOf_at hq];have hq2:=hLab q (List.mem_of_getElem? hq);exact place1L_any tb th rv (ptr q.blk) q.lv nv q.lab lab W kb (blk_below h.head hW) (hq2.row.below hW) (hn.below hW) hq2.fit.1 hq2.fit.2 hnl
 have hmono:=mono_of_pair (f:=oCmp lab) hd (fun a b hab hb=>cmpLs_lt_trans hab hb);have hfnd:=posOf_fnd os hmono
 cases hin:isIn (oCmp lab) os with
 |true=>
  obtain⟨x,hx,hx0⟩:=isIn_some hin;have hx':(owRs os)[posOf (oCmp lab) os]? =some (x.lv,ptr x.blk):=by simp [owRs,hx]
  refine(getL_in th B cmpLv rv nv (owRs os) (cfOf (oCmp lab) os) (posOf (oCmp lab) os) _ w h.head h.rows (by omega) hcf (by rw [hdl];exact hmono) (by rw [hdl];exact hfnd) hx' (by rw [cfOf_at hx];exact hx0)).mono ?_;rintro e w' ⟨rfl,hb⟩
  exact⟨hb,.inl ⟨rfl,x,hx,hx0,rfl⟩⟩
 |false=>
  refine(getL_out th B cmpLv rv nv (owRs os) (cfOf (oCmp lab) os) (posOf (oCmp lab) os) w h.head h.rows (by omega) hcf (by rw [hdl];exact hmono) (by rw [hdl];exact hfnd) (by rw [hdl];exact isIn_not hin)).mono ?_;rintro e w' ⟨rfl,hb⟩;exact⟨hb,.inr ⟨rfl,rfl⟩⟩
def hasT(lab:List ByteArray)(ty:Int)(os:List GOw):Bool:=match os[posOf (oCmp lab) os]? with
 |some o=>isIn (oCmp lab) os&&isIn (sCmp ty) o.ss
 |none=>false
set_option maxHeartbeats 800000 in
theorem treeHas_any(bb oo th:Nat)(rv:Value)(os:List GOw)(B:Nat)(na:Option Addr)(nl nc:Nat)(lab:List ByteArray)(ty:Int)(w:World)(h:TrAt w B th rv os)(hl:os.length<=500000)(hd:TrS os)(hLab:LabAt w (fpT th rv os) os)(hn:Nm.SRow w (.slice na nl nc) lab)(hnl:lab.length<=1000000000)(hc:w.cell? ⟨bb,oo+1,none⟩=some (ptr th)):
 Calls Tryz.prog 89 #[.pointer (some ⟨bb,oo,none⟩),.slice na nl nc,.int .i64 ty] w fun e w'=>e=.returned (.bool (hasT lab ty os))∧Below w.heap.size w w':=by
 have hg:=getOwner_any th rv os B (.slice na nl nc) lab w h hl hd.1 hLab hn hnl;have hh:=fun o (ho:o∈os) W (hW:Below w.heap.size w W)=>ownerHas_any o B ty W ((h.below hW).owners o ho) (by have:=(hd.2 o ho).2.1;omega) (hd.2 o ho).1
 unfold ptr at hc hg hh;have HH:=Nm.hide hh;clear hh h hd hLab hn;go_enter Tryz.func89,Tryz.ntmps89;go_wp2_with fail
 refine hg.mono ?_;rintro e w1 ⟨hb,⟨hin,o,ho,_,rfl⟩|⟨hin,rfl⟩⟩
 ·have hh:=HH.out o (List.mem_of_getElem? ho) w1 hb;have HE:Hid (hasT lab ty os=isIn (sCmp ty) o.ss):=by show _=_;rw [hasT,ho,hin];rfl
  generalize isIn (sCmp ty) o.ss=IS at*;clear hg hin ho;go_wp2_with fail
  refine hh.mono ?_;rintro e w2 ⟨rfl,b2⟩;go_wp2;go_ret;exact⟨by rw [HE.out];rfl,Nm.below_two hb b2⟩
 ·have HE:Hid (hasT lab ty os=false):=by
   show _=_
   rw [hasT]
   cases os[posOf (oCmp lab) os]? with
   |none=>rfl
   |some o=>rw [hin];rfl
  clear hg hin;go_wp2;go_ret;exact⟨by rw [HE.out];rfl,hb⟩
end Go.Proofs.YtmdinnjimioffaaGreat
namespace Go.Proofs.YtmdinnjimioffaaGreat
open Go.RowKit Go.Shelf
set_option linter.unusedVariables false
attribute [local go_sem] Oper.semAt_some
theorem infoStrV:(Tryz.prog.info? 9).map (fun i=>(i.zero,i.size,i.bytes))=some (some (.string ByteArray.empty),1,16):=by kernel_rfl
set_option maxRecDepth 100000 in
set_option maxHeartbeats 2000000 in
theorem valuesOf_in(F:Fence)(n:Nat)(h3:F.fn 102)(h4:F.fn 128)(h5:F.fn 146)(hro:F.round=none)(hn:3<=n)
 (g:Nat) (sv:Value) (zs:List (ByteArray×ByteArray)) (hl:zs.length<=1000000) (w:World) (hg:g<w.heap.size) (kg:w.cell? ⟨g,1,none⟩=some sv) (hR:RwsS (fun p:ByteArray×ByteArray=>p.1) (fun p=>p.2) w.heap.size w sv zs):
 CallsIn F n Tryz.prog 102 #[.pointer (some ⟨g,0,none⟩)] w fun e W'=>∃ v,e=.returned v∧W'.ownsRow w.heap.size 9 1 v zs.length (zs.map fun p=>.string p.2)∧Below w.heap.size w W':=by
 have h1:1<=n:=by omega
 obtain⟨i0,hi,hz0,hz1,hz2⟩:=info_parts infoStrV;refine callsIn_of_wp_marks Tryz.func102 rfl h3 ?_ hro;simp only [Tryz.ntmps102,List.size_toArray,List.length_cons,List.length_nil,Nat.reduceAdd,Nat.reduceSub,Array.replicate_succ,Array.replicate_zero,List.push_toArray,List.append_toArray,List.nil_append,List.cons_append]
 gi_wp2_with (gi_at_call 128;refine(allS_in F (n-1) h4 hro _ _).mono ?_;rintro e w' ⟨rfl,rfl⟩)
 have bO:=Boxed.new w 51 (.slice none 0 0);have bN:=Boxed.new (w.alloc (.cells #[.slice none 0 0] 51)) 132 (.pointer (some ⟨g,0,none⟩));rw [World.size_alloc] at bN;have hB0:Below w.heap.size w ((w.alloc (.cells #[.slice none 0 0] 51)).alloc (.cells #[.pointer (some ⟨g,0,none⟩)] 132)):=((Below.refl _ w).alloc (Nat.le_refl _) _).alloc (by simp) _;have kg2:=(hB0.cell (p:=⟨g,1,none⟩) hg).trans kg
 refine wpIn_rangeFunc_ownG hro h1 (gf:=146) (lb:=#[.pointer (some ⟨w.heap.size+1,0,none⟩)]) rfl h5 (enters_of Tryz.func146 (by kernel_rfl) rfl)
  (allStopsS (fun p:ByteArray×ByteArray=>p.1) (fun p=>p.2) F (n-1) h5 hro (by omega) (w.heap.size+1) g w.heap.size sv zs hl _ (by simp) hg (by simp;omega) bN.cell kg2 (hR.below hB0)) belowK_t (belowK_b (by simp;omega)) (Below.refl _ _) (fun _=>rfl)
  (fun pre W=>(∃ v,Boxed W w.heap.size 51 v∧W.ownsRow w.heap.size 9 1 v pre.length (pre.map fun p=>.string p.2)∧True)∧Below w.heap.size w W)
  (fun _ _ _=>False)
  (OwnFrom.and (Own.from (holdsRow_own w.heap.size w.heap.size 51 9 1 (fun pre:List (ByteArray×ByteArray)=>pre.length) (fun pre=>pre.map fun p=>.string p.2) (fun pre v=>True)) _) (ownFrom_below (Nat.le_refl _) (by simp;omega)))
  (fun _ _ _ _ _ hs _ _=>hs)
  ⟨⟨_,bO.alloc _,World.ownsRow_nil _ _ _ _,trivial⟩,hB0⟩
  (fun x=>{tmps:=#[.pointer (some ⟨g,0,none⟩),undef,.slice none 0 0,.pointer (some ⟨w.heap.size,0,none⟩),undef,.string x.2,.pointer (some ⟨g,0,none⟩),.func (.func 146) #[] #[.pointer (some ⟨w.heap.size+1,0,none⟩)],.string x.1,.string x.2,undef,undef,undef,undef,undef],defers:=[]}) ?assign ?body ?done ?stop
 case assign=>
  intro l x W K hK
  gi_wp2
  exact hK
 case body=>
  rintro l pre x W ⟨⟨v,hv,hrow,-⟩,hB⟩ hlt;have hc:=hv.cell;have hm:zs.length<=maxLen:=by unfold maxLen;omega
  gi_wp2_with (gi_at_builtin;refine wpListIn_append_own _ rfl _ _ 51 rfl w.heap.size 9 i0 (.string ByteArray.empty) 1 16 Tryz.underlying51 hi hz0 hz1 hz2 rfl (by decide) _ _ _ rfl (hrow.alloc _) ⟨W.heap.size,0,none⟩ 1 1 [.string x.2] rfl rfl (cell_one_new _ _ _) (by simp [Value.oneCell']) (by omega) (by omega) (by have:=hB.size;simp;omega) ?_;intro v' w1 hown' hgrow _;obtain⟨g',cap',rfl⟩:=ownsRow_succ hown';obtain⟨hv1,hv2,hr2,hk2,hb2⟩:=hv.appended (by decide) hrow hB.size (Nat.le_refl _) hown' hgrow;have hc1:=hv1.cell;have hf1:=hv1.frozen)
  exact⟨hk2.from _,hb2,⟨_,hv2,by simpa using hr2,trivial⟩,hB.trans hb2⟩
 case done=>
  rintro D ys W hD rfl ⟨⟨v,hv,hrow,-⟩,hB⟩ hK;have hc:=hv.cell
  gi_wp2
  refine⟨by simp,.inl ⟨_,_,rfl,run_takeDeferred hK,?_⟩⟩;exact⟨_,results_tmp rfl _ _ _,v,rfl,ownsRow_putObj hrow _ hK rfl,hB.trans (belowK_b (w:=w) (Nat.le_refl _) W D _ _ (by simp at hD;omega) hK rfl rfl)⟩
 case stop=>
  rintro D c pre W _ _ h _;exact h.elim
theorem valuesOf_any(g:Nat)(sv:Value)(zs:List (ByteArray×ByteArray))(hl:zs.length<=1000000)(w:World)(hg:g<w.heap.size)(kg:w.cell? ⟨g,1,none⟩=some sv)(hR:RwsS (fun p:ByteArray×ByteArray=>p.1) (fun p=>p.2) w.heap.size w sv zs):
 Calls Tryz.prog 102 #[.pointer (some ⟨g,0,none⟩)] w fun e W'=>∃ v,e=.returned v∧W'.ownsRow w.heap.size 9 1 v zs.length (zs.map fun p=>.string p.2)∧Below w.heap.size w W':=
 (callsIn_wide (n:=3)).1 (valuesOf_in _ 3 trivial trivial trivial rfl (by omega) g sv zs hl w hg kg hR)
end Go.Proofs.YtmdinnjimioffaaGreat
namespace Go.Proofs.YtmdinnjimioffaaGreat
open Go.RowKit
set_option linter.unusedVariables false
theorem SeS.one{l:List GSe}(h:SeS l){a b:GSe}(ha:a∈l)(hb:b∈l)(e:a.ty=b.ty):a=b:=by
 induction l with
 |nil=>cases ha
 |cons x l ih=>
  have hx:=List.pairwise_cons.1 h
  rcases List.mem_cons.1 ha with rfl|ha'
  ·rcases List.mem_cons.1 hb with rfl|hb'
   ·rfl
   ·have:=hx.1 b hb';omega
  ·rcases List.mem_cons.1 hb with rfl|hb'
   ·have:=hx.1 a ha';omega
   ·exact ih hx.2 ha' hb'
theorem SeS.found{l:List GSe}(h:SeS l){s:GSe}(hs:s∈l):isIn (sCmp s.ty) l=true∧l[posOf (sCmp s.ty) l]? =some s:=by
 have hmono:=mono_of_pair (f:=sCmp s.ty) h (fun a b hab hb=>by
  rw [sCmp,cmpI_neg] at hb ⊢
  omega)
 have hfnd:=posOf_fnd l hmono;obtain⟨k,hk⟩:=List.mem_iff_getElem?.1 hs;have hkl:=(List.getElem?_eq_some_iff.1 hk).1
 have hz:sCmp s.ty s=0:=by
  rcases Int.lt_trichotomy (sCmp s.ty s) 0 with h1|h1|h1
  ·rw [sCmp,cmpI_neg] at h1;omega
  ·exact h1
  ·rw [sCmp,Nm.cmpI] at h1;simp at h1
 have hF:Fnd l.length (cfOf (sCmp s.ty) l) k:=by
  refine⟨Nat.le_of_lt hkl,fun i hi=>?_,fun i h1 h2=>?_⟩
  ·have hi':l[i]? =some l[i]:=List.getElem?_eq_getElem (by omega);rw [cfOf_at hi',sCmp,cmpI_neg];have:=List.pairwise_iff_getElem.1 h i k (by omega) hkl hi;rw [(List.getElem?_eq_some_iff.1 hk).2] at this;exact this
  ·have hi':l[i]? =some l[i]:=List.getElem?_eq_getElem h2;rw [cfOf_at hi']
   rcases Int.lt_or_le (sCmp s.ty l[i]) 0 with h3|h3
   ·rw [sCmp,cmpI_neg] at h3
    rcases Nat.lt_or_eq_of_le h1 with h4|rfl
    ·have:=List.pairwise_iff_getElem.1 h k i hkl h2 h4;rw [(List.getElem?_eq_some_iff.1 hk).2] at this;omega
    ·rw [(List.getElem?_eq_some_iff.1 hk).2] at h3;omega
   ·exact h3
 have e:=Fnd.unique hfnd hF;rw [isIn,e,cfOf_at hk,hz];exact⟨by simp [hkl],hk⟩
theorem OwAt.below{w w':World}{B:Nat}{o:GOw}(h:OwAt w B o)(hb:Below w.heap.size w w'):OwAt w' B o:=h.keep fun b hm=>hb.block b (h.lt b hm)
set_option maxRecDepth 100000 in
set_option maxHeartbeats 1600000 in
theorem ownerSet_any(o:GOw)(s:GSe)(B:Nat)(w:World)(h:OwAt w B o)(hl:o.ss.length<=500000)(hd:SeS o.ss)(hs:s∈o.ss)(hsl:s.da.length<=1000000):
 Calls Tryz.prog 67 #[ptr o.blk,.int .i64 s.ty] w fun e w'=>∃ v,e=.returned (.tuple #[.agg #[.string o.nm,.int .i64 s.ty,.int .i64 s.tt,v],.bool true])∧w'.ownsRow w.heap.size 9 1 v s.da.length (s.da.map fun p=>.string p.2)∧Below w.heap.size w w':=by
 have hB0:=(Below.refl w.heap.size w).alloc (Nat.le_refl _) (.cells #[.string ⟨#[]⟩,.int .i64 0,.int .i64 0,.slice none 0 0] 65);have kZ:=blk_new w #[.string ⟨#[]⟩,.int .i64 0,.int .i64 0,.slice none 0 0] 65;have h1:=h.below hB0
 have hg:=(getSet_any o B s.ty _ h1 hl hd).mono (R':=fun e w'=>Below (w.heap.size+1) (w.alloc (.cells #[.string ⟨#[]⟩,.int .i64 0,.int .i64 0,.slice none 0 0] 65)) w'∧e=.returned (.tuple #[ptr s.blk,.bool true])) (by
  rintro e w' ⟨hb,⟨_,s',h1,h2,rfl⟩|⟨hno,_⟩⟩
  ·obtain rfl:=hd.one (List.mem_of_getElem? h1) hs h2;exact⟨by simpa using hb,rfl⟩
  ·rw [(hd.found hs).1] at hno;cases hno)
 have hv:=fun W (hW:Below w.heap.size w W)=>valuesOf_any s.hd s.rv s.da hsl W (Nat.lt_of_lt_of_le (blk_lt (h.sets s hs).head) hW.size) ((blk_cell (blk_below (h.sets s hs).head hW) 1).trans rfl) ((rwsS_own (fun p:ByteArray×ByteArray=>p.1) (fun p=>p.2) s.da (by have:=own_below (h.sets s hs).rows hW;rw [show(daRs s.da).length=s.da.length by simp [daRs]] at this;exact this)))
 have rn:=fun i=>blk_cell h1.node i
 have kn:=h.node;have ks:=(h.sets s hs).node;have HV:=Nm.hide hv;unfold ptr at hg rn kn ks ⊢;clear h h1 hd hs hv;go_enter Tryz.func67,Tryz.ntmps67;go_wp2_with fail
 refine hg.mono ?_;rintro e w1 ⟨hb1,rfl⟩;have bw1:Below w.heap.size w w1:=hB0.trans (hb1.mono (Nat.le_succ _));have kn1:=blk_below kn bw1;have ks1:=blk_below ks bw1;have kZ1:Blk w1 w.heap.size _ _:=blk_below kZ (by simpa using hb1);clear hg rn kn ks hb1;go_wp2_with fail
 refine wp_region_S (S:=fun W=>W.cell? ⟨o.blk,0,none⟩=some (.string o.nm)∧W.cell? ⟨s.blk,0,none⟩=some (.int .i64 s.tt)∧W.cell? ⟨s.blk,2,none⟩=some (.pointer (some ⟨s.hd,0,none⟩))) (Ls:=[15,16]) rfl ⟨(blk_cell (blk_drew kn1) 0).trans rfl,(blk_cell (blk_drew ks1) 0).trans rfl,(blk_cell (blk_drew ks1) 2).trans rfl⟩ (fun hH=>?_);refine wpAnyS_take (i:=0) (v:=?_) rfl (by kernel_rfl) (by kernel_rfl) (by kernel_rfl) (by kernel_rfl) (fun _ _ _ h=>h) (Or.inl ⟨by rfl,?_⟩) (by assumption) ?_;rotate_left 1
 ·(intro w hSw;obtain⟨t2,t3,t4⟩:=hSw;go_simp;try (with_reducible rfl))
 refine wpAnyS_take (i:=1) (v:=?_) rfl (by kernel_rfl) (by kernel_rfl) (by kernel_rfl) (by kernel_rfl) (fun _ _ _ h=>h) (Or.inl ⟨by rfl,?_⟩) (by assumption) ?_;rotate_left 1
 ·(intro w hSw;obtain⟨t2,t3,t4⟩:=hSw;go_simp;try (with_reducible rfl))
 refine wpAnyS_take (i:=2) (v:=?_) rfl (by kernel_rfl) (by kernel_rfl) (by kernel_rfl) (by kernel_rfl) (fun _ _ _ h=>h) (Or.inl ⟨by rfl,?_⟩) (by assumption) ?_;rotate_left 1
 ·(intro w hSw;obtain⟨t2,t3,t4⟩:=hSw;go_simp;try (with_reducible rfl))
 refine wpAnyS_take (i:=3) (v:=?_) rfl (by kernel_rfl) (by kernel_rfl) (by kernel_rfl) (by kernel_rfl) (fun _ _ _ h=>h) (Or.inl ⟨by rfl,?_⟩) (by assumption) ?_;rotate_left 1
 ·(intro w hSw;obtain⟨t2,t3,t4⟩:=hSw;go_simp;try (with_reducible rfl))
 refine wpAnyS_take (i:=4) (v:=?_) rfl (by kernel_rfl) (by kernel_rfl) (by kernel_rfl) (by kernel_rfl) (fun _ _ _ h=>h) (Or.inl ⟨by rfl,?_⟩) (by assumption) ?_;rotate_left 1
 ·(intro w hSw;obtain⟨t2,t3,t4⟩:=hSw;go_simp;try (with_reducible rfl))
 refine wpAnyS_take (i:=5) (v:=?_) rfl (by kernel_rfl) (by kernel_rfl) (by kernel_rfl) (by kernel_rfl) (fun _ _ _ h=>h) (Or.inl ⟨by rfl,?_⟩) (by assumption) ?_;rotate_left 1
 ·(intro w hSw;obtain⟨t2,t3,t4⟩:=hSw;go_simp;try (with_reducible rfl))
 refine wpAnyS_take (i:=6) (v:=?_) rfl (by kernel_rfl) (by kernel_rfl) (by kernel_rfl) (by kernel_rfl) (fun _ _ _ h=>h) (Or.inl ⟨by rfl,?_⟩) (by assumption) ?_;rotate_left 1
 ·(intro w hSw;obtain⟨t2,t3,t4⟩:=hSw;go_simp;try (with_reducible rfl))
 refine wpAnyS_take (i:=7) (v:=?_) rfl (by kernel_rfl) (by kernel_rfl) (by kernel_rfl) (by kernel_rfl) (fun _ _ _ h=>h) (Or.inl ⟨by rfl,?_⟩) (by assumption) ?_;rotate_left 1
 ·(intro w hSw;obtain⟨t2,t3,t4⟩:=hSw;go_simp;try (with_reducible rfl))
 refine wpAnyS_take (i:=8) (v:=?_) rfl (by kernel_rfl) (by kernel_rfl) (by kernel_rfl) (by kernel_rfl) (fun _ _ _ h=>h) (Or.inl ⟨by rfl,?_⟩) (by assumption) ?_;rotate_left 1
 ·(intro w hSw;obtain⟨t2,t3,t4⟩:=hSw;go_simp;try (with_reducible rfl))
 refine wpAnyS_take (i:=9) (v:=?_) rfl (by kernel_rfl) (by kernel_rfl) (by kernel_rfl) (by kernel_rfl) (fun _ _ _ h=>h) (Or.inl ⟨by rfl,?_⟩) (by assumption) ?_;rotate_left 1
 ·(intro w hSw;obtain⟨t2,t3,t4⟩:=hSw;go_simp;try (with_reducible rfl))
 refine wpAnyS_take (i:=10) (v:=?_) rfl (by kernel_rfl) (by kernel_rfl) (by kernel_rfl) (by kernel_rfl) (fun _ _ _ h=>h) (Or.inl ⟨by rfl,?_⟩) (by assumption) ?_;rotate_left 1
 ·(intro w hSw;obtain⟨t2,t3,t4⟩:=hSw;go_simp;try (with_reducible rfl))
 refine wpAnyS_take (i:=11) (v:=?_) rfl (by kernel_rfl) (by kernel_rfl) (by kernel_rfl) (by kernel_rfl) (fun _ _ _ h=>h) (Or.inl ⟨by rfl,?_⟩) (by assumption) ?_;rotate_left 1
 ·(intro w hSw;obtain⟨t2,t3,t4⟩:=hSw;go_simp;try (with_reducible rfl))
 refine wpAnyS_take (i:=12) (v:=?_) rfl (by kernel_rfl) (by kernel_rfl) (by kernel_rfl) (by kernel_rfl) (fun _ _ _ h=>h) (Or.inl ⟨by rfl,?_⟩) (by assumption) ?_;rotate_left 1
 ·(intro w hSw;obtain⟨t2,t3,t4⟩:=hSw;go_simp;try (with_reducible rfl))
 refine wpAnyS_one (i:=13) (by kernel_rfl) rfl (fun K hK'=>?_);go_simp;have bd:=(Below.refl w1.heap.size w1).drew;refine(HV.out _ (bw1.drew)).mono ?_;rintro e w3 ⟨v,rfl,ho3,d3⟩;have d3':=bd.trans d3;have kn3:=blk_below kn1 d3';have ks3:=blk_below ks1 d3';have kZ3:=blk_below kZ1 d3';have bw3:=Nm.below_two bw1 d3';obtain⟨va,vc,rfl⟩:=own_sl ho3;have HLT:Hid (w.heap.size<w1.heap.size):=blk_lt kZ1;clear kn1 ks1 kZ1 hH;go_wp2_with fail
 refine hK'.out _ _ ⟨(blk_cell kn3 0).trans rfl,(blk_cell ks3 0).trans rfl,(blk_cell ks3 2).trans rfl⟩ (fun hH=>?_);clear hK' K;refine wpAnyS_take (i:=14) (v:=?_) rfl (by kernel_rfl) (by kernel_rfl) (by kernel_rfl) (by kernel_rfl) (fun _ _ _ h=>h) (Or.inl ⟨by rfl,?_⟩) (by assumption) ?_;rotate_left 1
 ·(intro w hSw;obtain⟨t2,t3,t4⟩:=hSw;go_simp;try (with_reducible rfl))
 refine wpAnyS_late (i:=15) (by kernel_rfl) rfl (by kernel_rfl) (fun K hK'=>?_);have rz:=fun i=>blk_cell kZ3 i
 have fz:=fun i=>blk_frozen kZ3 i
 go_simp;refine hK'.out _ _ ?_;clear hK' K;refine wpAnyS_late (i:=16) (by kernel_rfl) rfl (by kernel_rfl) (fun K hK'=>?_);go_simp;refine hK'.out _ _ ?_;clear hK' K;refine wpAnyS_done (by kernel_rfl) ?_;have hfar:(Value.slice va s.da.length vc).ownBlock≠some w.heap.size:=fun e=>by have:=(ho3.lt _ e).1;have:=HLT.out;simp at*;omega
 have k4:=blk_set (blk_set (blk_set (blk_set kZ3 0 (.string o.nm)) 1 (.int .i64 s.ty)) 2 (.int .i64 s.tt)) 3 (.slice va s.da.length vc);simp only [List.setIfInBounds_toArray,List.set_cons_zero,List.set_cons_succ] at k4;have ho4:=own_far (y:=.slice va s.da.length vc) (i:=3) (g:=w.heap.size) (own_far (y:=.int .i64 s.tt) (i:=2) (g:=w.heap.size) (own_far (y:=.int .i64 s.ty) (i:=1) (g:=w.heap.size) (own_far (y:=.string o.nm) (i:=0) (g:=w.heap.size) ho3 hfar) hfar) hfar) hfar;have bw4:=(((bw3.setCell (p:=⟨w.heap.size,0,none⟩) (Nat.le_refl _) (.string o.nm)).setCell (p:=⟨w.heap.size,1,none⟩) (Nat.le_refl _) (.int .i64 s.ty)).setCell (p:=⟨w.heap.size,2,none⟩) (Nat.le_refl _) (.int .i64 s.tt)).setCell (p:=⟨w.heap.size,3,none⟩) (Nat.le_refl _) (.slice va s.da.length vc);have rk:=fun i=>blk_cell k4 i
 clear rz fz hH;go_wp2_with fail
 refine bodyPost_ret (v:=.tuple #[.agg #[.string o.nm,.int .i64 s.ty,.int .i64 s.tt,.slice va s.da.length vc],.bool true]) ?_ rfl ⟨_,rfl,own_base ho4 bw1.size,bw4⟩;simp [results,Tryz.f67,go_sem,rk]
end Go.Proofs.YtmdinnjimioffaaGreat
