import Derived.Test.YtieobflhfcgliaaGreatCut
import Derived.Test.YtieobflhfcgliaaGreatJZnT
import Derived.Test.YtieobflhfcgliaaGreatJZnM
import Derived.Test.YtieobflhfcgliaaGreatJWiP
namespace Go.Proofs.YtieobflhfcgliaaGreat
open Go.RowKit
set_option maxRecDepth 100000 in
set_option maxHeartbeats 400000 in
theorem implCheckData_any(t:Int)(d:ByteArray)(w:World)(hd:d.size<=2000000):
 Calls Tryz.prog 124 #[.int .i64 t,.string d] w fun e w'=>e=.returned (.int .i64 (cutCode t d))∧Below w.heap.size w w':=by
 have hcall:=cutData_any t d w hd;go_enter Tryz.func124,Tryz.ntmps124;go_wp2_with (go_at_call 152;refine hcall.mono ?_;rintro e w2 ⟨v,rfl,_,_,hbel⟩)
 go_ret;exact⟨rfl,hbel⟩
end Go.Proofs.YtieobflhfcgliaaGreat
namespace Go.Proofs.YtieobflhfcgliaaGreat
open Go.RowKit Go.Shelf
set_option linter.unusedVariables false
attribute [local go_sem] Oper.semAt_some
theorem infoOwP:(Tryz.prog.info? 149).map (fun i=>(i.zero,i.size,i.bytes))=some (some (.pointer none),1,8):=by kernel_rfl
def tailV:Option GOw->Value
 |none=>.slice none 0 0
 |some q=>.slice (slA q.lv) (slN q.lv) (slC q.lv)
theorem belK_mem:∀ (pre:List GOw) (q:GOw),(belK pre).1=some q->q∈pre:=by
 refine snoc_ind ?_ ?_
 ·intro q h;simp [belK] at h
 ·intro l o ih q h;rw [belK_snoc,belStep] at h
  cases ht:(belK l).1 with
  |none=>
   rw [ht] at h;simp only at h
   split at h
   ·simp at h;simp [h]
   ·simp at h
  |some t=>
   rw [ht] at h;have:=ih t ht;simp only at h
   split at h
   ·simp at h;rw [<- h];simp [this]
   ·split at h
    ·simp at h;simp [h]
    ·simp at h;rw [<- h];simp [this]
theorem belK_len:∀ (pre:List GOw),(belK pre).2.length<=pre.length:=by
 refine snoc_ind ?_ ?_
 ·simp [belK]
 ·intro l o ih;rw [belK_snoc,belStep,List.length_append,List.length_singleton]
  cases (belK l).1 with
  |none=>
   simp only
   split
   ·simp;omega
   ·simp;omega
  |some t=>
   simp only
   split
   ·simp;omega
   ·split
    ·simp;omega
    ·simp;omega
set_option maxRecDepth 100000 in
set_option maxHeartbeats 4000000 in
theorem belowTails_in(F:Fence)(n:Nat)(h1:F.fn 144)(h2:F.fn 158)(h3:F.fn 120)(h4:F.fn 148)(h5:F.fn 143)(hro:F.round=none)(hn:6<=n)
 (bb oo th:Nat) (rv:Value) (os:List GOw) (B:Nat) (w:World) (h:TrAt w B th rv os) (hl:os.length<=400000) (hLab:LabAt w (fpT th rv os) os) (hc:w.cell? ⟨bb,oo+1,none⟩=some (ptr th))
 (hun:∀ (o q:GOw) (m:Nat) (W:World),o∈os->q∈os->Below w.heap.size w W->CallsIn F m Tryz.prog 158 #[.slice (slA o.lv) (slN o.lv) (slC o.lv),.slice (slA q.lv) (slN q.lv) (slC q.lv)] W fun e w'=>e=.returned (.bool (underB o.lab q.lab))∧Below W.heap.size W w')
 (hhas:∀ (o:GOw) (m:Nat) (W:World),o∈os->Below w.heap.size w W->CallsIn F m Tryz.prog 143 #[.pointer (some ⟨o.blk,0,none⟩),.int .i64 39] W fun e w'=>e=.returned (.bool (has39 o))∧Below W.heap.size W w'):
 CallsIn F n Tryz.prog 144 #[.pointer (some ⟨bb,oo,none⟩)] w fun e W'=>∃ v,e=.returned v∧W'.ownsRow w.heap.size 149 1 v (belK os).2.length ((belK os).2.map fun o=>ptr o.blk)∧Below w.heap.size w W':=by
 have n1:1<=n:=by omega
 obtain⟨i0,hi,hz0,hz1,hz2⟩:=info_parts infoOwP;have hth:th<w.heap.size:=blk_lt h.head;have hbb:bb<w.heap.size:=World.block_lt_of_cell? w _ hc;unfold ptr at hc;have HX:=Nm.hide (And.intro h (And.intro hLab (And.intro hun hhas)));clear h hLab hun hhas;have c3:(((w.alloc (.cells #[.slice none 0 0] 177)).alloc (.cells #[.slice none 0 0] 115)).alloc (.cells #[.bool false] 4)).cell? ⟨bb,oo+1,none⟩=some (.pointer (some ⟨th,0,none⟩)):=((((Below.refl w.heap.size w).alloc (Nat.le_refl _) _).alloc (by simp) _).alloc (by simp;omega) _).cell (p:=⟨bb,oo+1,none⟩) hbb|>.trans hc
 refine callsIn_of_wp_marks Tryz.func144 rfl h1 ?_ hro;simp only [Tryz.ntmps144,List.size_toArray,List.length_cons,List.length_nil,Nat.reduceAdd,Nat.reduceSub,Array.replicate_succ,Array.replicate_zero,List.push_toArray,List.append_toArray,List.nil_append,List.cons_append]
 gi_wp2_with (gi_at_call 120;refine(allL_in F (n-1) h3 hro _ _).mono ?_;rintro e w' ⟨rfl,rfl⟩)
 have bO:=((Boxed.new w 177 (.slice none 0 0)).alloc (.cells #[.slice none 0 0] 115)).alloc (.cells #[.bool false] 4);have bT:=(Boxed.new (w.alloc (.cells #[.slice none 0 0] 177)) 115 (.slice none 0 0)).alloc (.cells #[.bool false] 4);have bF:=Boxed.new ((w.alloc (.cells #[.slice none 0 0] 177)).alloc (.cells #[.slice none 0 0] 115)) 4 (.bool false);have bI:=Boxed.new (((w.alloc (.cells #[.slice none 0 0] 177)).alloc (.cells #[.slice none 0 0] 115)).alloc (.cells #[.bool false] 4)) 116 (.pointer (some ⟨th,0,none⟩));have bO:=bO.alloc (.cells #[.pointer (some ⟨th,0,none⟩)] 116);have bT:=bT.alloc (.cells #[.pointer (some ⟨th,0,none⟩)] 116);have bF:=bF.alloc (.cells #[.pointer (some ⟨th,0,none⟩)] 116);simp only [World.size_alloc] at bT bF bI;have b3:Below w.heap.size w ((((w.alloc (.cells #[.slice none 0 0] 177)).alloc (.cells #[.slice none 0 0] 115)).alloc (.cells #[.bool false] 4)).alloc (.cells #[.pointer (some ⟨th,0,none⟩)] 116)):=((((Below.refl w.heap.size w).alloc (Nat.le_refl _) _).alloc (by simp) _).alloc (by simp;omega) _).alloc (by simp;omega) _;have hsz:((((w.alloc (.cells #[.slice none 0 0] 177)).alloc (.cells #[.slice none 0 0] 115)).alloc (.cells #[.bool false] 4)).alloc (.cells #[.pointer (some ⟨th,0,none⟩)] 116)).heap.size=w.heap.size+4:=by simp
 obtain⟨W0,hW0⟩:∃ W0,(((w.alloc (.cells #[.slice none 0 0] 177)).alloc (.cells #[.slice none 0 0] 115)).alloc (.cells #[.bool false] 4)).alloc (.cells #[.pointer (some ⟨th,0,none⟩)] 116)=W0:=⟨_,rfl⟩;rw [hW0] at bO bT bF bI b3 hsz ⊢;clear hW0 c3;have hza:os.attach.length=os.length:=List.length_attach
 have hR0:RwsL (fun x:{o:GOw // o∈os}=>slA x.1.lv) (fun x=>slN x.1.lv) (fun x=>slC x.1.lv) (fun x=>⟨x.1.blk,0,none⟩) w.heap.size w rv os.attach:=by
  refine rwsL_own _ _ _ _ (B:=B) (e:=185) _ ?_;have hr:=HX.out.1.rows
  have e1:(os.attach.map fun x:{o:GOw // o∈os}=>((Value.slice (slA x.1.lv) (slN x.1.lv) (slC x.1.lv)),(Value.pointer (some (⟨x.1.blk,0,none⟩:Addr)))))=owRs os:=by
   rw [owRs]
   conv=>rhs;rw [<- List.attach_map_subtype_val os]
   rw [List.map_map];refine List.map_congr_left (fun x _=>?_);simp only [Function.comp,ptr];rw [<- sl_eq (HX.out.2.1 x.1 x.2).row]
  rw [e1];rw [show(owRs os).length=os.attach.length by simp [owRs]] at hr;exact hr
 have kh3:W0.cell? ⟨th,1,none⟩=some rv:=(b3.cell (p:=⟨th,1,none⟩) hth).trans ((blk_cell HX.out.1.head 1).trans rfl)
 refine wpIn_rangeFunc_ownG hro n1 (gf:=148) (lb:=#[.pointer (some ⟨w.heap.size+1+1+1,0,none⟩)]) rfl h4 (enters_of Tryz.func148 (by kernel_rfl) rfl)
  (allStopsL (fun x:{o:GOw // o∈os}=>slA x.1.lv) (fun x=>slN x.1.lv) (fun x=>slC x.1.lv) (fun x=>⟨x.1.blk,0,none⟩) F (n-1) h4 hro (by omega) (w.heap.size+1+1+1) th w.heap.size rv os.attach (by omega) W0 (by omega) hth (by omega) bI.cell kh3 (hR0.below b3)) belowK_t (belowK_b (by omega)) (Below.refl _ _) (fun _=>rfl)
  (fun pre W=>((∃ v,Boxed W w.heap.size 177 v∧W.ownsRow w.heap.size 149 1 v (belK (pre.map (·.1))).2.length ((belK (pre.map (·.1))).2.map fun o=>ptr o.blk)∧True)∧(Boxed W (w.heap.size+1) 115 (tailV (belK (pre.map (·.1))).1)∧Boxed W (w.heap.size+1+1) 4 (.bool (belK (pre.map (·.1))).1.isSome)))∧Below w.heap.size w W)
  (fun _ _ _=>False)
  (OwnFrom.and (OwnFrom.and (Own.from (holdsRow_own w.heap.size w.heap.size 177 149 1 (fun pre:List {o:GOw // o∈os}=>(belK (pre.map (·.1))).2.length) (fun pre=>(belK (pre.map (·.1))).2.map fun o=>ptr o.blk) (fun pre v=>True)) _) (OwnFrom.and (Own.from (boxed_own _ _ (fun pre:List {o:GOw // o∈os}=>tailV (belK (pre.map (·.1))).1)) _) (Own.from (boxed_own _ _ (fun pre:List {o:GOw // o∈os}=>Value.bool (belK (pre.map (·.1))).1.isSome)) _))) (ownFrom_below (Nat.le_refl _) (by omega)))
  (fun _ _ _ _ _ hs _ _=>hs)
  ⟨⟨⟨_,bO,World.ownsRow_nil _ _ _ _,trivial⟩,bT,bF⟩,b3⟩
  (fun x=>{tmps:=#[.pointer (some ⟨bb,oo,none⟩),undef,.slice none 0 0,.pointer (some ⟨w.heap.size,0,none⟩),.pointer (some ⟨w.heap.size+1,0,none⟩),.pointer (some ⟨w.heap.size+1+1,0,none⟩),.slice (slA x.1.lv) (slN x.1.lv) (slC x.1.lv),.pointer (some ⟨x.1.blk,0,none⟩),.pointer (some ⟨bb,oo,none⟩),.pointer (some ⟨bb,oo,none⟩),.pointer (some ⟨bb,oo+1,none⟩),.pointer (some ⟨th,0,none⟩),.func (.func 148) #[] #[.pointer (some ⟨w.heap.size+1+1+1,0,none⟩)],.slice (slA x.1.lv) (slN x.1.lv) (slC x.1.lv),.pointer (some ⟨x.1.blk,0,none⟩),undef,undef,undef,undef,undef,undef,undef,undef,undef,undef,undef,undef,undef,undef,undef,undef],defers:=[]}) ?assign ?body ?done ?stop
 case assign=>
  intro l x W K hK
  gi_wp2
  exact hK
 case body=>
  rintro l pre x W ⟨⟨⟨v,hv,hrow,-⟩,hT,hF⟩,hB⟩ hlt;have eS:belK ((pre++[x]).map (·.1))=belStep (belK (pre.map (·.1))) x.1:=by rw [List.map_append,List.map_cons,List.map_nil,belK_snoc]
  have hln:=belK_len (pre.map (·.1));rw [List.length_map] at hln
  have hmem:∀ q,(belK (pre.map (·.1))).1=some q->q∈os:=fun q hq=>by
   obtain⟨y,_,rfl⟩:=List.mem_map.1 (belK_mem _ q hq);exact y.2
  have n2:1<=n-1-1:=by omega
  have hm:os.attach.length<=maxLen:=by unfold maxLen;omega
  have HE:=Nm.hide eS;clear eS;generalize belK (pre.map (·.1))=ST at hrow hT hF hln hmem HE;obtain⟨t,out⟩:=ST;simp only at hrow hT hF hln hmem
  have HLN:=Nm.hide (And.intro hln hlt);clear hln;have cF:=hF.cell
  cases t with
  |none=>
   simp only [tailV,Option.isSome_none] at hT hF cF;clear hmem
   cases h39:has39 x.1 with
   |true=>
    have hh:=HX.out.2.2.2 x.1 (n-1-1-1) W x.2 hB;rw [h39] at hh;have e9:belK ((pre++[x]).map (·.1))=(some x.1,out):=by rw [HE.out];simp [belStep,h39]
    have HE9:=Nm.hide e9;clear h39 e9 HE
    gi_wp2_with (
     gi_at_call 143
     refine(CallsIn.inRound l hh).mono ?_;rintro e w2 ⟨rfl,b2⟩;have hT2:Boxed w2 _ _ _:=blk_below hT b2;have hF2:Boxed w2 _ _ _:=blk_below hF b2;have hv2:Boxed w2 _ _ _:=blk_below hv b2;have hrow2:=own_below hrow b2;have cT2:=hT2.cell;have fT2:=hT2.frozen;have cF2:=hF2.cell
     have fF2:=hF2.frozen)
    have k2:=(keeps_below b2).trans ((KeepsOthers.setCell w2 ⟨w.heap.size+1,0,none⟩ (.slice (slA x.1.lv) (slN x.1.lv) (slC x.1.lv))).trans (KeepsOthers.setCell _ ⟨w.heap.size+1+1,0,none⟩ (.bool true)));have bb2:=((b2.mono hB.size).setCell (p:=⟨w.heap.size+1,0,none⟩) (by simp) (.slice (slA x.1.lv) (slN x.1.lv) (slC x.1.lv))).setCell (p:=⟨w.heap.size+1+1,0,none⟩) (by simp;omega) (.bool true);refine⟨k2.from _,bb2,?_,hB.trans bb2⟩;rw [HE9.out];have o2:=own_far (i:=0) (y:=.slice (slA x.1.lv) (slN x.1.lv) (slC x.1.lv)) hrow2 (own_nb hrow2 hT2 (by decide));have hF3:=hF2.other (show w.heap.size+1+1≠w.heap.size+1 by omega) (.slice (slA x.1.lv) (slN x.1.lv) (slC x.1.lv));have hv3:=hv2.other (show w.heap.size≠w.heap.size+1 by omega) (.slice (slA x.1.lv) (slN x.1.lv) (slC x.1.lv));have hT3:=hT2.set (.slice (slA x.1.lv) (slN x.1.lv) (slC x.1.lv))
    exact⟨⟨_,hv3.other (by omega) _,own_far o2 (own_nb o2 hF3 (by decide)),trivial⟩,hT3.other (by omega) _,hF3.set _⟩
   |false=>
    have hh:=HX.out.2.2.2 x.1 (n-1-1-1) W x.2 hB;rw [h39] at hh;have e9:belK ((pre++[x]).map (·.1))=(none,out):=by rw [HE.out];simp [belStep,h39]
    have HE9:=Nm.hide e9;clear h39 e9 HE
    gi_wp2_with (
     gi_at_call 143
     refine(CallsIn.inRound l hh).mono ?_;rintro e w2 ⟨rfl,b2⟩;have hT2:Boxed w2 _ _ _:=blk_below hT b2;have hF2:Boxed w2 _ _ _:=blk_below hF b2;have hv2:Boxed w2 _ _ _:=blk_below hv b2
     have hrow2:=own_below hrow b2)
    refine⟨(keeps_below b2).from _,b2.mono hB.size,?_,hB.trans (b2.mono hB.size)⟩;rw [HE9.out]
    exact⟨⟨_,hv2,hrow2,trivial⟩,hT2,hF2⟩
  |some q=>
   simp only [tailV,Option.isSome_some] at hT hF cF;have hq:=hmem q rfl;clear hmem;have cT:=hT.cell
   cases hu:underB x.1.lab q.lab with
   |true=>
    have hh:=HX.out.2.2.1 x.1 q (n-1-1-1) W x.2 hq hB;rw [hu] at hh;have e9:belK ((pre++[x]).map (·.1))=(some q,out++[x.1]):=by rw [HE.out];simp [belStep,hu]
    have HE9:=Nm.hide e9;clear hu e9 HE
    gi_wp2_with (first
     |(gi_at_call 158
       refine(CallsIn.inRound l hh).mono ?_;rintro e w2 ⟨rfl,b2⟩;have hT2:Boxed w2 _ _ _:=blk_below hT b2;have hF2:Boxed w2 _ _ _:=blk_below hF b2;have hv2:Boxed w2 _ _ _:=blk_below hv b2;have hrow2:=own_below hrow b2;have hs2:=b2.size
       have cv2:=hv2.cell)
     |(gi_at_builtin
       refine wpListIn_append_own _ rfl _ _ 177 rfl w.heap.size 149 i0 (.pointer none) 1 8 Tryz.underlying177 hi hz0 hz1 hz2 rfl (by decide) _ _ _ rfl (hrow2.alloc _) ⟨w2.heap.size,0,none⟩ 1 1 [.pointer (some ⟨x.1.blk,0,none⟩)] rfl rfl (cell_one_new _ _ _) (by simp [Value.oneCell']) (by unfold maxLen;have:=HLN.out;omega) (by have:=HLN.out;omega) (by have:=hB.size;simp;omega) ?_;intro v' w3 hown' hgrow _;obtain⟨g',cap',rfl⟩:=ownsRow_succ hown';have hap:=hv2.appended (by decide) hrow2 (by have:=hB.size;omega) (Nat.le_refl _) hown' hgrow;obtain⟨q1,q2,q3,q4,q5⟩:=hap;have cv3:=q1.cell
       have fv3:=q1.frozen))
    have hra:(w2.alloc (.cells #[.pointer (some ⟨x.1.blk,0,none⟩)] 149)).ownsRow w.heap.size 149 1 v out.length (out.map fun o=>ptr o.blk):=hrow2.alloc _;have hT2a:Blk (w2.alloc (.cells #[.pointer (some ⟨x.1.blk,0,none⟩)] 149)) (w.heap.size+1) #[.slice (slA q.lv) (slN q.lv) (slC q.lv)] 115:=blk_alloc hT2 _;have hF2a:Blk (w2.alloc (.cells #[.pointer (some ⟨x.1.blk,0,none⟩)] 149)) (w.heap.size+1+1) #[.bool true] 4:=blk_alloc hF2 _;have hT3:Boxed w3 (w.heap.size+1) 115 (.slice (slA q.lv) (slN q.lv) (slC q.lv)):=blk_grown hT2a hgrow (own_nb hra hT2a (by decide));have hF3:Boxed w3 (w.heap.size+1+1) 4 (.bool true):=blk_grown hF2a hgrow (own_nb hra hF2a (by decide));have kk:=(keeps_below b2).trans q4;have bk:=(b2.mono hB.size).trans q5;refine⟨kk.from _,bk,?_,hB.trans bk⟩;rw [HE9.out]
    exact⟨⟨_,q2,by simpa [ptr] using q3,trivial⟩,hT3.other (by omega) _,hF3.other (by omega) _⟩
   |false=>
    have hh:=HX.out.2.2.1 x.1 q (n-1-1-1) W x.2 hq hB;rw [hu] at hh;have hg:=fun W' (hW:Below w.heap.size w W')=>HX.out.2.2.2 x.1 (n-1-1-1) W' x.2 hW
    cases h39:has39 x.1 with
    |true=>
     rw [h39] at hg;have e9:belK ((pre++[x]).map (·.1))=(some x.1,out):=by rw [HE.out];simp [belStep,hu,h39]
     have HE9:=Nm.hide e9;clear hu h39 e9 HE
     gi_wp2_with (first
      |(gi_at_call 158
        refine(CallsIn.inRound l hh).mono ?_
        rintro e w1 ⟨rfl,b1⟩)
      |(gi_at_call 143
        refine(CallsIn.inRound l (hg _ (hB.trans (b1.mono hB.size)))).mono ?_;rintro e w2 ⟨rfl,b12⟩;have b2:=Nm.below_two b1 b12;have hT2:Boxed w2 _ _ _:=blk_below hT b2;have hF2:Boxed w2 _ _ _:=blk_below hF b2;have hv2:Boxed w2 _ _ _:=blk_below hv b2;have hrow2:=own_below hrow b2;have cT2:=hT2.cell;have fT2:=hT2.frozen;have cF2:=hF2.cell
        have fF2:=hF2.frozen))
     have k2:=(keeps_below b2).trans ((KeepsOthers.setCell w2 ⟨w.heap.size+1,0,none⟩ (.slice (slA x.1.lv) (slN x.1.lv) (slC x.1.lv))).trans (KeepsOthers.setCell _ ⟨w.heap.size+1+1,0,none⟩ (.bool true)));have bb2:=((b2.mono hB.size).setCell (p:=⟨w.heap.size+1,0,none⟩) (by simp) (.slice (slA x.1.lv) (slN x.1.lv) (slC x.1.lv))).setCell (p:=⟨w.heap.size+1+1,0,none⟩) (by simp;omega) (.bool true);refine⟨k2.from _,bb2,?_,hB.trans bb2⟩;rw [HE9.out];have o2:=own_far (i:=0) (y:=.slice (slA x.1.lv) (slN x.1.lv) (slC x.1.lv)) hrow2 (own_nb hrow2 hT2 (by decide));have hF3:=hF2.other (show w.heap.size+1+1≠w.heap.size+1 by omega) (.slice (slA x.1.lv) (slN x.1.lv) (slC x.1.lv));have hv3:=hv2.other (show w.heap.size≠w.heap.size+1 by omega) (.slice (slA x.1.lv) (slN x.1.lv) (slC x.1.lv));have hT3:=hT2.set (.slice (slA x.1.lv) (slN x.1.lv) (slC x.1.lv))
     exact⟨⟨_,hv3.other (by omega) _,own_far o2 (own_nb o2 hF3 (by decide)),trivial⟩,hT3.other (by omega) _,hF3.set _⟩
    |false=>
     rw [h39] at hg;have e9:belK ((pre++[x]).map (·.1))=(some q,out):=by rw [HE.out];simp [belStep,hu,h39]
     have HE9:=Nm.hide e9;clear hu h39 e9 HE
     gi_wp2_with (first
      |(gi_at_call 158
        refine(CallsIn.inRound l hh).mono ?_
        rintro e w1 ⟨rfl,b1⟩)
      |(gi_at_call 143
        refine(CallsIn.inRound l (hg _ (hB.trans (b1.mono hB.size)))).mono ?_;rintro e w2 ⟨rfl,b12⟩;have b2:=Nm.below_two b1 b12;have hT2:Boxed w2 _ _ _:=blk_below hT b2;have hF2:Boxed w2 _ _ _:=blk_below hF b2;have hv2:Boxed w2 _ _ _:=blk_below hv b2
        have hrow2:=own_below hrow b2))
     refine⟨(keeps_below b2).from _,b2.mono hB.size,?_,hB.trans (b2.mono hB.size)⟩;rw [HE9.out];exact⟨⟨_,hv2,hrow2,trivial⟩,hT2,hF2⟩
 case done=>
  rintro D ys W hD rfl ⟨⟨⟨v,hv,hrow,-⟩,hT,hF⟩,hB⟩ hK;rw [List.attach_map_subtype_val] at hrow;have hc:=hv.cell
  gi_wp2
  refine⟨by simp,.inl ⟨_,_,rfl,run_takeDeferred hK,?_⟩⟩;exact⟨_,results_tmp rfl _ _ _,v,rfl,ownsRow_putObj hrow _ hK rfl,hB.trans (belowK_b (w:=w) (Nat.le_refl _) W D _ _ (by omega) hK rfl rfl)⟩
 case stop=>
  rintro D c pre W _ _ h _;exact h.elim
theorem belowTails_any(bb oo th:Nat)(rv:Value)(os:List GOw)(B:Nat)(w:World)(h:TrAt w B th rv os)(hd:TrS os)(hl:os.length<=400000)(hLab:LabAt w (fpT th rv os) os)(hc:w.cell? ⟨bb,oo+1,none⟩=some (ptr th)):
 Calls Tryz.prog 144 #[.pointer (some ⟨bb,oo,none⟩)] w fun e W'=>∃ v,e=.returned v∧W'.ownsRow w.heap.size 149 1 v (belK os).2.length ((belK os).2.map fun o=>ptr o.blk)∧Below w.heap.size w W':=
 (callsIn_wide (n:=6)).1 (belowTails_in Fence.wide 6 trivial trivial trivial trivial trivial rfl (by omega) bb oo th rv os B w h hl hLab hc
  (fun o q m W ho hq hW=>callsIn_wide.2 (by
   have lo:=hLab o ho;have lq:=hLab q hq;have hu:=under_any o.lv q.lv o.lab q.lab W (lo.row.below hW) (lq.row.below hW) lo.fit.1 lo.fit.2 lq.fit.2;rw [sl_eq lo.row,sl_eq lq.row] at hu;refine hu.mono ?_;rintro e w' ⟨rfl,m',rfl⟩
   exact⟨rfl,Go.below_drewN (Below.refl _ _) _⟩))
  (fun o m W ho hW=>callsIn_wide.2 (ownerHas_any o B 39 W ((h.owners o ho).below hW) (by have:=(hd.2 o ho).2.1;omega) (hd.2 o ho).1)))
end Go.Proofs.YtieobflhfcgliaaGreat
namespace Go.Proofs.YtieobflhfcgliaaGreat
open Go.RowKit
set_option linter.unusedVariables false
def rsV(c i:Int):Ending:=.returned (.tuple #[.int .i64 c,.int .i64 i])
theorem outs_set{W:World}{b i:Nat}{v:Value}:Outs [b] W (W.setCell ⟨b,i,none⟩ v):=⟨rfl,rfl,rfl,by simp,fun k _ hk=>heap_setCell_other W ⟨b,i,none⟩ k _ (by simpa using hk)⟩
set_option maxRecDepth 100000 in
set_option maxHeartbeats 1600000 in
theorem checkSize_any(bb:Nat)(la:Option Addr)(ln lc:Nat)(apex:ByteArray)(w:World)(hk:Blk w bb #[.slice la ln lc,.string apex,.slice none 0 0,.slice none 0 0,.pointer none,.slice none 0 0] 121)(ha:apex.size<=maxLen):
 Calls Tryz.prog 110 #[.pointer (some ⟨bb,0,none⟩)] w fun e w'=>
  (Nm.split apex=none∧e=rsV 32 (-1)∧Below w.heap.size w w')∨(Nm.split apex≠none∧500<ln∧e=rsV 12 (-1)∧Below w.heap.size w w')∨
  (∃ xs aa ac th,Nm.split apex=some xs∧ln<=500∧e=rsV 0 0∧Outs [bb] w w'∧Blk w' bb #[.slice la ln lc,.string apex,.slice none 0 0,.slice aa xs.length ac,ptr th,.slice none 0 0] 121∧Blk w' th #[cmpLv,.slice none 0 0] 183∧w'.ownsRow w.heap.size 9 1 (.slice aa xs.length ac) xs.length (xs.map Value.string)∧w.heap.size<=th):=by
 have rk:=fun i=>blk_cell hk i
 have hs:=splitName_any apex w ha;have hbl:=blk_lt hk
 cases hsp:Nm.split apex with
 |none=>
  rw [hsp] at hs;simp only [Option.isSome_none,Option.getD_none] at hs;clear hsp;go_enter Tryz.func110,Tryz.ntmps110;go_wp2_with fail
  refine hs.mono ?_;rintro e w1 ⟨v,rfl,ho,b1⟩;clear hs;go_wp2;go_ret2
  exact .inl ⟨trivial,rfl,b1⟩
 |some xs=>
  rw [hsp] at hs;simp only [Option.isSome_some,Option.getD_some] at hs
  by_cases hln:500<ln
  ·have i1:(500:Int)<(ln:Int):=by omega
   have HL:=Nm.hide hln;clear hsp hln;go_enter Tryz.func110,Tryz.ntmps110;go_wp2_with fail
   refine hs.mono ?_;rintro e w1 ⟨v,rfl,ho,b1⟩;have rk1:=fun i=>blk_cell (blk_below hk b1) i
   clear hs rk;go_wp2;go_ret2;exact .inr (.inl ⟨by simp,HL.out,rfl,b1⟩)
  ·have i1:¬(500:Int)<(ln:Int):=by omega
   have HL:=Nm.hide hln;clear hsp hln;go_enter Tryz.func110,Tryz.ntmps110;go_wp2_with fail
   refine hs.mono ?_;rintro e w1 ⟨v,rfl,ho,b1⟩;obtain⟨aa,ac,rfl⟩:=own_sl ho;have k1:=blk_below hk b1;have rk1:=fun i=>blk_cell k1 i
   have b2:=(Below.refl w1.heap.size w1).alloc (Nat.le_refl _) (.cells #[cmpLv,.slice none 0 0] 183);have kt:=blk_new w1 #[cmpLv,.slice none 0 0] 183;have k2:=blk_below k1 b2;have rk2:=fun i=>blk_cell k2 i
   have fk2:=fun i=>blk_frozen k2 i
   have o2:=own_below ho b2;have hn:=newTableL_any (.func 133) w1;unfold ptr at hn;unfold cmpLv at kt rk2 fk2;clear hs rk;go_wp2_with (go_at_call 132;refine hn.mono ?_;rintro e w2 ⟨rfl,rfl⟩)
   go_ret2;have k3:=blk_set (blk_set k2 3 (.slice aa xs.length ac)) 4 (.pointer (some ⟨w1.heap.size,0,none⟩));simp only [List.setIfInBounds_toArray,List.set_cons_zero,List.set_cons_succ] at k3;have hne:bb≠w1.heap.size:=by have:=b1.size;omega
   refine .inr (.inr ⟨xs,aa,ac,w1.heap.size,rfl,by have:=HL.out;omega,rfl,?_,k3,?_,?_,b1.size⟩)
   ·have h9:=(Outs.below (fp:=[bb]) (Nm.below_two b1 b2)).trans (outs_set (b:=bb) (i:=3) (v:=.slice aa xs.length ac)) (fun k hk=>.inl hk);exact h9.trans (outs_set (b:=bb) (i:=4) (v:=.pointer (some ⟨w1.heap.size,0,none⟩))) (fun k hk=>.inl hk)
   ·exact blk_grown (blk_grown kt (grown_setC _ bb 3 _) (fun e=>by cases e;exact hne rfl)) (grown_setC _ bb 4 _) (fun e=>by cases e;exact hne rfl)
   ·have o3:=own_far (i:=3) (y:=.slice aa xs.length ac) o2 (own_nb o2 k2 (by decide));exact own_far o3 (own_nb o3 (blk_set k2 3 (.slice aa xs.length ac)) (by decide))
def recC(r:Rr)(xs ys:List ByteArray):Int:=
 if r.cl≠1 then 19 else if(decide (0<=r.tt)&&decide (r.tt<=2147483647))=false then 18
 else if(decide (0<=r.ty)&&decide (r.ty<=65535))=false then 6 else if metaB r.ty=true then 6 else if cutCode r.ty r.da≠0 then 7 else if underB xs ys=false then 22 else 0
set_option maxRecDepth 100000 in
set_option maxHeartbeats 1600000 in
theorem checkRecord_any(r:Rr)(bb:Nat)(v u:Value)(xs ys:List ByteArray)(w:World)(hd:r.da.size<=2000000)(hv:Nm.SRow w v xs)(hu:Nm.SRow w u ys)(hk:w.cell? ⟨bb,3,none⟩=some u)(hxs:∀ x∈xs,x.size<=1000000000)(hlx:xs.length<=1000000000)(hly:ys.length<=1000000000):
 Calls Tryz.prog 134 #[.pointer (some ⟨bb,0,none⟩),.agg #[.string r.own,.int .i64 r.ty,.int .i64 r.cl,.int .i64 r.tt,.string r.da],v] w fun e w'=>e=.returned (.int .i64 (recC r xs ys))∧Below w.heap.size w w':=by
 have hB0:=(Below.refl w.heap.size w).alloc (Nat.le_refl _) (.cells #[.string r.own,.int .i64 r.ty,.int .i64 r.cl,.int .i64 r.tt,.string r.da] 27);have hR0:=RB.new w r 27;have h1:=fun W=>within_any r.tt 2147483647 W
 have h2:=fun W=>within_any r.ty 65535 W
 have h3:=fun W=>isMeta_any r.ty W
 have h4:=fun W=>implCheckData_any r.ty r.da W hd
 have h5:=fun W (hW:Below w.heap.size w W)=>under_any v u xs ys W (hv.below hW) (hu.below hW) hxs hlx hly
 have hkk:=fun W (hW:Below w.heap.size w W)=>(hW.cell (p:=⟨bb,3,none⟩) (World.block_lt_of_cell? w _ hk)).trans hk
 have ev:=hv;obtain⟨va,vc,rfl,_⟩:=ev;have eu:=hu;obtain⟨ua,uc,rfl,_⟩:=eu;obtain⟨Q,hQ⟩:∃ Q,Q=recC r xs ys:=⟨_,rfl⟩;rw [<- hQ];unfold recC at hQ;generalize cutCode r.ty r.da=CC at*;generalize underB xs ys=UB at*;generalize (decide (0<=r.tt)&&decide (r.tt<=2147483647))=TT at*;generalize (decide (0<=r.ty)&&decide (r.ty<=65535))=TY at*;have hmb:∀ b,metaB r.ty=b->True:=fun _ _=>trivial
 generalize metaB r.ty=MB at*;clear hmb hv hu hk;obtain⟨o,ty,cl,tt,da⟩:=r;simp only [RB] at*;obtain⟨c0,c1,c2,c3,c4⟩:=hR0
 by_cases hcl:cl=1
 ·rw [if_neg (by simpa using hcl)] at hQ;subst hcl;have ncl:((1:Int) != 1)=false:=rfl
  cases TT with
  |false=>
   simp only [if_true] at hQ;subst hQ;clear h2 h3 h4 h5 hkk;go_enter Tryz.func134,Tryz.ntmps134;go_wp2_with fail
   refine(h1 _).mono ?_;rintro e w1 ⟨rfl,rfl⟩;go_wp2;go_ret
   exact⟨rfl,hB0⟩
  |true=>
   simp only [Bool.true_eq_false,if_false] at hQ
   cases TY with
   |false=>
    simp only [if_true] at hQ;subst hQ;clear h3 h4 h5 hkk;go_enter Tryz.func134,Tryz.ntmps134;go_wp2_with fail
    refine(h1 _).mono ?_;rintro e w1 ⟨rfl,rfl⟩;go_wp2_with fail
    refine(h2 _).mono ?_;rintro e w1 ⟨rfl,rfl⟩;go_wp2;go_ret
    exact⟨rfl,hB0⟩
   |true=>
    simp only [Bool.true_eq_false,if_false] at hQ
    cases MB with
    |true=>
     simp only [if_true] at hQ;subst hQ;clear h4 h5 hkk;go_enter Tryz.func134,Tryz.ntmps134;go_wp2_with fail
     refine(h1 _).mono ?_;rintro e w1 ⟨rfl,rfl⟩;go_wp2_with fail
     refine(h2 _).mono ?_;rintro e w1 ⟨rfl,rfl⟩;go_wp2_with fail
     refine(h3 _).mono ?_;rintro e w1 ⟨rfl,rfl⟩;go_wp2;go_ret
     exact⟨rfl,hB0⟩
    |false=>
     simp only [Bool.false_eq_true,if_false] at hQ
     by_cases hcc:CC=0
     ·rw [if_neg (by simpa using hcc)] at hQ;subst hcc;have HQ:=Nm.hide hQ;clear hQ;go_enter Tryz.func134,Tryz.ntmps134;go_wp2_with fail
      refine(h1 _).mono ?_;rintro e w1 ⟨rfl,rfl⟩;go_wp2_with fail
      refine(h2 _).mono ?_;rintro e w1 ⟨rfl,rfl⟩;go_wp2_with fail
      refine(h3 _).mono ?_;rintro e w1 ⟨rfl,rfl⟩;go_wp2_with fail
      refine(h4 _).mono ?_;rintro e w2 ⟨rfl,b2⟩;have hb2:=Nm.below_two hB0 b2;have k2:=hkk w2 hb2;clear hkk;go_wp2_with fail
      refine(h5 _ hb2).mono ?_;rintro e w3 ⟨rfl,m,rfl⟩
      cases UB with
      |true=>
       go_wp2;go_ret
       exact⟨by rw [HQ.out];rfl,Go.below_drewN hb2 _⟩
      |false=>
       go_wp2;go_ret;exact⟨by rw [HQ.out];rfl,Go.below_drewN hb2 _⟩
     ·rw [if_pos (by simpa using hcc)] at hQ;subst hQ;have ncc:(CC != 0)=true:=by simpa using hcc
      clear h5 hkk;go_enter Tryz.func134,Tryz.ntmps134;go_wp2_with fail
      refine(h1 _).mono ?_;rintro e w1 ⟨rfl,rfl⟩;go_wp2_with fail
      refine(h2 _).mono ?_;rintro e w1 ⟨rfl,rfl⟩;go_wp2_with fail
      refine(h3 _).mono ?_;rintro e w1 ⟨rfl,rfl⟩;go_wp2_with fail
      refine(h4 _).mono ?_;rintro e w2 ⟨rfl,b2⟩;go_wp2;go_ret;exact⟨rfl,Nm.below_two hB0 b2⟩
 ·rw [if_pos (by simpa using hcl)] at hQ;subst hQ;have ncl:(cl != 1)=true:=by simpa using hcl
  clear h1 h2 h3 h4 h5 hkk;go_enter Tryz.func134,Tryz.ntmps134;go_wp2;go_ret;exact⟨rfl,hB0⟩
theorem one_rec{r:Rr}{apex:ByteArray}{xs ys:List ByteArray}(hx:Nm.split r.own=some xs)(hy:Nm.split apex=some ys):oneC r apex=recC r xs ys:=by
 rw [oneC,recC,hx,isUnder_some hx hy];simp only [Option.isSome_some,Bool.true_eq_false,if_false];split
 ·rfl
 ·split
  ·rfl
  ·by_cases h1:(decide (0<=r.ty)&&decide (r.ty<=65535))=false
   ·rw [if_pos h1,if_pos ?_];simp only [Bool.and_eq_false_iff,decide_eq_false_iff_not] at h1
    rcases h1 with h1|h1
    ·exact .inr (.inl (by omega))
    ·exact .inr (.inr (by omega))
   ·rw [if_neg h1]
    by_cases h2:metaB r.ty=true
    ·rw [if_pos h2,if_pos (.inl h2)]
    ·rw [if_neg h2,if_neg ?_];simp only [Bool.and_eq_false_iff,decide_eq_false_iff_not,not_or,Decidable.not_not] at h1
     rintro(h3|h3|h3)
     ·exact h2 h3
     ·omega
     ·omega
theorem one_bad{r:Rr}{apex:ByteArray}(hx:Nm.split r.own=none):oneC r apex=1:=by rw [oneC,hx];rfl
theorem wsum_len:∀ (xs:List ByteArray),xs.length<=Nm.wsum xs:=by
 intro xs
 induction xs with
 |nil=>simp [Nm.wsum]
 |cons x xs ih=>simp only [List.length_cons,Nm.wsum];omega
theorem lab_fit{s:ByteArray}{xs:List ByteArray}(h:Nm.split s=some xs):(∀ x∈xs,x.size<=1000000000)∧xs.length<=255:=by
 have h1:=Nm.split_join h;have h2:=Nm.split_size h;have h3:=wsum_len xs;exact⟨fun x hx=>by have:=h1.2 x hx;omega,by omega⟩
theorem outs_grown{fp:List Nat}{w W W':World}{row:Option Nat}(h:Outs fp w W)(hg:W.grownBy W' row)(hr:∀ g,row=some g->w.heap.size<=g):Outs fp w W':=
 ⟨hg.os.trans h.os,hg.tape.trans h.tape,hg.output.trans h.output,Nat.le_trans h.size hg.size,fun k hk hn=>(hg.block k (Nat.lt_of_lt_of_le hk h.size) (fun e=>by have:=hr k e.symm;omega)).trans (h.block k hk hn)⟩
theorem outs_cell{fp:List Nat}{w W:World}{p:Addr}{v:Value}(h:Outs fp w W)(hc:w.cell? p=some v)(hn:p.block∉fp):W.cell? p=some v:=by
 have hlt:=World.block_lt_of_cell? w _ hc;rw [World.cell?_of_block (w:=w) (h.block p.block hlt hn)];exact hc
theorem srow_outs{fp:List Nat}{w W:World}{v:Value}{xs:List ByteArray}(h:Outs fp w W)(hs:Nm.SRow w v xs)(hn:xs≠[]->∀ b,rowBlk v=some b->b∉fp):Nm.SRow W v xs:=by
 obtain⟨a,cap,rfl,h1,h2,h3,h4⟩:=hs;refine⟨a,cap,rfl,h1,h2,h3,fun hne=>?_⟩;obtain⟨b,off,rfl,hc⟩:=h4 hne;exact⟨b,off,rfl,fun k x hx=>outs_cell h (hc k x hx) (hn hne b rfl)⟩
theorem srow_own{w:World}{B:Nat}{v:Value}{xs:List ByteArray}(h:w.ownsRow B 9 1 v xs.length (xs.map Value.string)):Nm.SRow w v xs:=Nm.SRow.of_owns h
structure LbRow (W:World) (B:Nat) (v:Value) (lvs:List Value) (xss:List (List ByteArray)):Prop where
 outer:W.ownsRow B 115 1 v lvs.length lvs
 len:lvs.length=xss.length
 inner:∀ (i:Nat) (u:Value) (xs:List ByteArray),lvs[i]? =some u->xss[i]? =some xs->W.ownsRow B 9 1 u xs.length (xs.map Value.string)
theorem LbRow.nil(W:World)(B:Nat):LbRow W B (.slice none 0 0) [] []:=⟨World.ownsRow_nil _ _ _ _,rfl,by simp⟩
theorem LbRow.below{W W':World}{B:Nat}{v:Value}{lvs:List Value}{xss:List (List ByteArray)}(h:LbRow W B v lvs xss)(hb:Below W.heap.size W W'):LbRow W' B v lvs xss:=
 ⟨own_below h.outer hb,h.len,fun i u xs h1 h2=>own_below (h.inner i u xs h1 h2) hb⟩
theorem LbRow.set{W:World}{B b i:Nat}{v y:Value}{cs:Array Value}{lvs:List Value}{xss:List (List ByteArray)}(h:LbRow W B v lvs xss)(hb:Blk W b cs 121):LbRow (W.setCell ⟨b,i,none⟩ y) B v lvs xss:=
 ⟨own_far h.outer (own_nb h.outer hb (by decide)),h.len,fun j u xs h1 h2=>own_far (h.inner j u xs h1 h2) (own_nb (h.inner j u xs h1 h2) hb (by decide))⟩
theorem LbRow.snoc{W W1:World}{B:Nat}{v v' u:Value}{lvs:List Value}{xs:List ByteArray}{xss:List (List ByteArray)}(h:LbRow W B v lvs xss)(hu:W.ownsRow B 9 1 u xs.length (xs.map Value.string))
 (ho:W1.ownsRow B 115 1 v' (lvs.length+1) (lvs++[u])) (hg:W.grownBy W1 v.ownBlock):LbRow W1 B v' (lvs++[u]) (xss++[xs]):=by
 refine⟨by simpa using ho,by simp [h.len],fun i y zs h1 h2=>?_⟩
 rcases snoc_cases h1 with⟨hi,h1'⟩|⟨hi,rfl⟩
 ·rw [List.getElem?_append_left (by rw [<- h.len];exact hi)] at h2;have:=h.inner i y zs h1' h2;exact own_besideZ this hg (own_kindsZ this h.outer (by decide))
 ·rw [hi,h.len,List.getElem?_append_right (Nat.le_refl _)] at h2;simp at h2;subst h2;exact own_besideZ hu hg (own_kindsZ hu h.outer (by decide))
theorem infoLl:(Tryz.prog.info? 115).map (fun i=>(i.zero,i.size,i.bytes))=some (some (.slice none 0 0),1,24):=by kernel_rfl
def labsOf(l:List Rr):List (List ByteArray):=l.map fun r=>(Nm.split r.own).getD []
set_option maxRecDepth 100000 in
set_option maxHeartbeats 3200000 in
theorem checkRecords_any(bb:Nat)(la:Option Addr)(lc:Nat)(list:List Rr)(apex:ByteArray)(ys:List ByteArray)(aa:Option Addr)(ac:Nat)(tv:Value)(w:World)(hk:Blk w bb #[.slice la list.length lc,.string apex,.slice none 0 0,.slice aa ys.length ac,tv,.slice none 0 0] 121)
 (h:CRow w (.slice la list.length lc) list.length 5 (rvVs list)) (hfar:0<list.length->rowBlk (.slice la list.length lc)≠some bb) (hl:list.length<=500) (hap:Nm.split apex=some ys) (hav:Nm.SRow w (.slice aa ys.length ac) ys) (hafar:rowBlk (.slice aa ys.length ac)≠some bb) (ho:∀ r∈list,r.own.size<=maxLen∧r.da.size<=2000000):
 Calls Tryz.prog 111 #[.pointer (some ⟨bb,0,none⟩)] w fun e w'=>Outs [bb] w w'∧
  ((∃ c i,badOne apex list 0=some (c,i)∧e=rsV c i)∨
  (badOne apex list 0=none∧e=rsV 0 0∧∃ labv lvs,Blk w' bb #[.slice la list.length lc,.string apex,labv,.slice aa ys.length ac,tv,.slice none 0 0] 121∧LbRow w' w.heap.size labv lvs (labsOf list))):=by
 obtain⟨i0,hi,hz0,hz1,hz2⟩:=info_parts infoLl;have rk:=fun i=>blk_cell hk i
 have hbl:=blk_lt hk;obtain⟨_,a,cap,e,hcap,hmx,hc⟩:=h;cases e
 unfold maxLen at hmx;have HX:=Nm.hide (And.intro hfar (And.intro hap (And.intro hav (And.intro hafar ho))));clear hfar hap hav hafar ho;have HK:=Nm.hide hk;clear hk;go_enter Tryz.func111,Tryz.ntmps111;go_wp2
 go_loopw [14] (fun i wr=>∃ (k:Nat) (labv:Value) (lvs:List Value),k<=list.length∧i=.int .i64 k∧(∀ (j:Nat) (x:Rr),j<k->list[j]? =some x->oneC x apex=0)∧Blk wr bb #[.slice la list.length lc,.string apex,labv,.slice aa ys.length ac,tv,.slice none 0 0] 121∧LbRow wr w.heap.size labv lvs (labsOf (list.take k))∧Outs [bb] w wr) (fun i _=>list.length-(intOf i).toNat)
 case atStart=>exact⟨0,.slice none 0 0,[],Nat.zero_le _,rfl,fun j x hj=>absurd hj (Nat.not_lt_zero _),HK.out,LbRow.nil _ _,Outs.below (Below.refl _ _)⟩
 case round=>
  obtain⟨k,labv,lvs,hk',rfl,hno,kb,lr,hou⟩:=hrel;have HR:=Nm.hide (And.intro hno (And.intro kb (And.intro lr hou)))
  by_cases hlt:k<list.length
  ·obtain⟨x,hx⟩:∃ x,list[k]? =some x:=⟨_,List.getElem?_eq_getElem hlt⟩;obtain⟨b,off,rfl,hcell⟩:=hc (by omega);have hnb:b∉[bb]:=fun hm=>HX.out.1 (by omega) (by rw [List.mem_singleton.1 hm];rfl)
   obtain⟨d0,d1,d2,d3,d4⟩:=rv_cells (w:=wr) (fun i y hy=>outs_cell hou (hcell i y hy) hnb) hx;have hxo:=HX.out.2.2.2.2 x (List.mem_of_getElem? hx);have kr:=blk_new wr #[.string x.own,.int .i64 x.ty,.int .i64 x.cl,.int .i64 x.tt,.string x.da] 27;have ba:=(Below.refl wr.heap.size wr).alloc (Nat.le_refl _) (.cells #[.string x.own,.int .i64 x.ty,.int .i64 x.cl,.int .i64 x.tt,.string x.da] 27);have hsn:=splitName_any x.own (wr.alloc (.cells #[.string x.own,.int .i64 x.ty,.int .i64 x.cl,.int .i64 x.tt,.string x.da] 27)) hxo.1;have HXX:=Nm.hide hx;have i1:(0:Int)<=(k:Int):=by omega
   have i2:(k:Int)<(list.length:Int):=by omega
   clear hc hcell hx hno kb lr hou hnb rk;go_wp2_with fail
   refine hsn.mono ?_;rintro e w2 ⟨v,rfl,hv2,b2⟩;have b2':=Nm.below_two ba b2;have kr2:=blk_below kr b2
   cases hsp:Nm.split x.own with
   |none=>
    rw [hsp] at hv2;simp only [Option.isSome_none];have HB:=Nm.hide (one_bad (apex:=apex) hsp);clear hsn hsp d0 d1 d2 d3 d4;go_wp2;go_ret2;refine⟨HR.out.2.2.2.trans (Outs.below b2' (fp:=[bb])) (fun k hk=>.inl hk),.inl ⟨1,k,?_,rfl⟩⟩;have:=badOne_at (apex:=apex) list k 0 x HR.out.1 HXX.out (by rw [HB.out];decide)
    rw [this,HB.out,Nat.zero_add]
   |some xs=>
    rw [hsp] at hv2;simp only [Option.isSome_some,Option.getD_some] at hv2 ⊢;obtain⟨va,vc,rfl⟩:=own_sl hv2;have ou2:Outs [bb] w w2:=HR.out.2.2.2.trans (Outs.below b2' (fp:=[bb])) (fun k hk=>.inl hk);have kb2:=blk_below HR.out.2.1 b2';have c3:=(blk_cell kb2 3).trans rfl;have hav2:=srow_outs ou2 HX.out.2.2.1 (fun _ b hb hm=>HX.out.2.2.2.1 (by rw [hb,List.mem_singleton.1 hm]));have hfx:=lab_fit hsp;have hfy:=lab_fit HX.out.2.1;have hcr:=checkRecord_any x bb (.slice va xs.length vc) (.slice aa ys.length ac) xs ys w2 hxo.2 (srow_own hv2) hav2 c3 hfx.1 (by omega) (by omega);rw [<- one_rec hsp HX.out.2.1] at hcr;have HSP:=Nm.hide hsp;have HOU:=Nm.hide ou2;have rr2:=fun i=>blk_cell kr2 i
    clear hsn hsp d0 d1 d2 d3 d4 hav2 ou2;obtain⟨OC,hOC⟩:∃ OC,OC=oneC x apex:=⟨_,rfl⟩;rw [<- hOC] at hcr;have HOC:=Nm.hide hOC;clear hOC
    by_cases h0:OC=0
    ·subst h0;have hlr:=HR.out.2.2.1
     have hlk:lvs.length=k:=by
      rw [hlr.len,labsOf,List.length_map,List.length_take];omega
     have HLK:=Nm.hide hlk;clear hlk
     go_wp2_with (first
      |(go_at_call 134
        refine hcr.mono ?_;rintro e w3 ⟨rfl,b3⟩;have b3':=Nm.below_two b2' b3;have kb3:=blk_below kb2 b3;have rk3:=fun i=>blk_cell kb3 i
        have lr3:=hlr.below b3';have hv3:=own_below hv2 b3
        have lr3o:=lr3.outer)
      |(at_builtin
        refine wpList_append_own _ rfl _ _ 114 rfl w.heap.size 115 i0 (.slice none 0 0) 1 24 Tryz.underlying114 hi hz0 hz1 hz2 rfl (by decide) _ _ _ rfl (own_below lr3o ((Below.refl _ _).alloc (Nat.le_refl _) _)) ⟨w3.heap.size,0,none⟩ 1 1 [.slice va xs.length vc] rfl rfl (cell_one_new _ _ _) (by simp [Value.oneCell']) (by unfold maxLen;have:=HLK.out;omega) (by have:=HLK.out;omega) (by have:=b3'.size;have:=HOU.out.size;have:=HR.out.2.2.2.size;simp;omega) ?_;intro v' w5 hown' hgrow _;obtain⟨g',cap',rfl⟩:=ownsRow_succ hown';have kb4:Blk (w3.alloc (.cells #[.slice va xs.length vc] 115)) bb #[.slice (some ⟨b,off,none⟩) list.length lc,.string apex,labv,.slice aa ys.length ac,tv,.slice none 0 0] 121:=blk_alloc kb3 _;have lr4:=lr3.below ((Below.refl _ w3).alloc (Nat.le_refl _) (.cells #[.slice va xs.length vc] 115));have kb5:=blk_grown kb4 hgrow (own_nb lr4.outer kb4 (by decide));have rk5:=fun i=>blk_cell kb5 i
        have fk5:=fun i=>blk_frozen kb5 i))
     have lr5:=lr4.snoc (own_base (own_below hv3 ((Below.refl _ w3).alloc (Nat.le_refl _) (.cells #[.slice va xs.length vc] 115))) (by have:=b2'.size;have:=HR.out.2.2.2.size;have:=ba.size;simp at*;omega)) hown' hgrow;have k6:=blk_set kb5 2 (.slice (some ⟨g',0,none⟩) (lvs.length+1) cap');simp only [List.setIfInBounds_toArray,List.set_cons_zero,List.set_cons_succ] at k6;have ou5:=outs_grown (outs_grown (HOU.out.trans (Outs.below b3 (fp:=[bb])) (fun k hk=>.inl hk)) (grown_of_below ((Below.refl _ w3).alloc (Nat.le_refl _) (.cells #[.slice va xs.length vc] 115))) (fun g e=>by cases e)) hgrow (fun g e=>(lr4.outer.lt g e).1);go_roundw
     case rel=>
      refine⟨k+1,_,lvs++[.slice va xs.length vc],by omega,by go_num,fun j y hj hy=>?_,k6,?_,ou5.trans (outs_set (b:=bb) (i:=2)) (fun k hk=>.inl hk)⟩
      ·rcases Nat.lt_succ_iff_lt_or_eq.1 hj with h1|rfl
       ·exact HR.out.1 j y h1 hy
       ·rw [HXX.out] at hy;cases hy;exact HOC.out.symm
      ·have e9:labsOf (list.take (k+1))=labsOf (list.take k)++[xs]:=by
        obtain⟨hkl,ex⟩:=List.getElem?_eq_some_iff.1 HXX.out;rw [List.take_succ_eq_append_getElem hkl,ex,labsOf,List.map_append,List.map_cons,List.map_nil,HSP.out];rfl
       rw [e9];exact lr5.set kb5
     case measure=>simp [intOf];omega
    ·have n0:(OC != 0)=true:=by simpa using h0
     have H0:=Nm.hide h0;clear h0;go_wp2_with (go_at_call 134;refine hcr.mono ?_;rintro e w3 ⟨rfl,b3⟩)
     go_ret2;refine⟨HOU.out.trans (Outs.below b3 (fp:=[bb])) (fun k hk=>.inl hk),.inl ⟨OC,k,?_,rfl⟩⟩;have:=badOne_at (apex:=apex) list k 0 x HR.out.1 HXX.out (by rw [<- HOC.out];exact H0.out);rw [this,<- HOC.out,Nat.zero_add]
  ·have hke:k=list.length:=by omega
   subst hke;clear hc hno kb lr hou;go_wp2;go_ret2;refine⟨HR.out.2.2.2,.inr ⟨badOne_no _ _ HR.out.1,rfl,labv,lvs,HR.out.2.1,?_⟩⟩;have:=HR.out.2.2.1
   rwa [List.take_length] at this
end Go.Proofs.YtieobflhfcgliaaGreat
