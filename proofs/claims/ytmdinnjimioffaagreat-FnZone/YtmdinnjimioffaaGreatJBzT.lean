import Derived.Test.YtmdinnjimioffaaGreatJBzC
import Derived.Test.YtmdinnjimioffaaGreatJTrE
import Derived.Test.YtmdinnjimioffaaGreatJTrD
import Derived.Test.YtmdinnjimioffaaGreatJBzR
import Derived.Test.YtmdinnjimioffaaGreatJOrdL
import Derived.BigQuiet
namespace Go.Proofs.YtmdinnjimioffaaGreat
open Go.RowKit Go.Shelf
set_option linter.unusedVariables false
attribute [local go_sem] Oper.semAt_some
theorem infoOwP:(Tryz.prog.info? 103).map (fun i=>(i.zero,i.size,i.bytes))=some (some (.pointer none),1,8):=by kernel_rfl
def tailV:Option GOw->Value
 |none=>.slice none 0 0
 |some q=>.slice (slA q.lv) (slN q.lv) (slC q.lv)
theorem belK_mem:∀ (pre:List GOw) (q:GOw),(belK pre).1=some q->q∈pre:=by
 refine snoc_ind ?_ ?_
 ·intro q h;simp [belK] at h
 ·intro l o ih q h;rw [belK_snoc,belStep] at h
  cases ht:(belK l).1 with
  |none=>
   rw [ht] at h;simp only at h
   split at h
   ·simp at h;simp [h]
   ·simp at h
  |some t=>
   rw [ht] at h;have:=ih t ht;simp only at h
   split at h
   ·simp at h;rw [<- h];simp [this]
   ·split at h
    ·simp at h;simp [h]
    ·simp at h;rw [<- h];simp [this]
theorem belK_len:∀ (pre:List GOw),(belK pre).2.length<=pre.length:=by
 refine snoc_ind ?_ ?_
 ·simp [belK]
 ·intro l o ih;rw [belK_snoc,belStep,List.length_append,List.length_singleton]
  cases (belK l).1 with
  |none=>
   simp only
   split
   ·simp;omega
   ·simp;omega
  |some t=>
   simp only
   split
   ·simp;omega
   ·split
    ·simp;omega
    ·simp;omega
set_option maxRecDepth 100000 in
set_option maxHeartbeats 4000000 in
theorem belowTails_in(F:Fence)(n:Nat)(h1:F.fn 95)(h2:F.fn 113)(h3:F.fn 65)(h4:F.fn 99)(h5:F.fn 94)(hro:F.round=none)(hn:6<=n)
 (bb oo th:Nat) (rv:Value) (os:List GOw) (B:Nat) (w:World) (h:TrAt w B th rv os) (hl:os.length<=400000) (hLab:LabAt w (fpT th rv os) os) (hc:w.cell? ⟨bb,oo+1,none⟩=some (ptr th))
 (hun:∀ (o q:GOw) (m:Nat) (W:World),o∈os->q∈os->Below w.heap.size w W->CallsIn F m Tryz.prog 113 #[.slice (slA o.lv) (slN o.lv) (slC o.lv),.slice (slA q.lv) (slN q.lv) (slC q.lv)] W fun e w'=>e=.returned (.bool (underB o.lab q.lab))∧Below W.heap.size W w')
 (hhas:∀ (o:GOw) (m:Nat) (W:World),o∈os->Below w.heap.size w W->CallsIn F m Tryz.prog 94 #[.pointer (some ⟨o.blk,0,none⟩),.int .i64 39] W fun e w'=>e=.returned (.bool (has39 o))∧Below W.heap.size W w'):
 CallsIn F n Tryz.prog 95 #[.pointer (some ⟨bb,oo,none⟩)] w fun e W'=>∃ v,e=.returned v∧W'.ownsRow w.heap.size 103 1 v (belK os).2.length ((belK os).2.map fun o=>ptr o.blk)∧Below w.heap.size w W':=by
 have n1:1<=n:=by omega
 obtain⟨i0,hi,hz0,hz1,hz2⟩:=info_parts infoOwP;have hth:th<w.heap.size:=blk_lt h.head;have hbb:bb<w.heap.size:=World.block_lt_of_cell? w _ hc;unfold ptr at hc;have HX:=Nm.hide (And.intro h (And.intro hLab (And.intro hun hhas)));clear h hLab hun hhas;have c3:(((w.alloc (.cells #[.slice none 0 0] 139)).alloc (.cells #[.slice none 0 0] 67)).alloc (.cells #[.bool false] 4)).cell? ⟨bb,oo+1,none⟩=some (.pointer (some ⟨th,0,none⟩)):=((((Below.refl w.heap.size w).alloc (Nat.le_refl _) _).alloc (by simp) _).alloc (by simp;omega) _).cell (p:=⟨bb,oo+1,none⟩) hbb|>.trans hc
 refine callsIn_of_wp_marks Tryz.func95 rfl h1 ?_ hro;simp only [Tryz.ntmps95,List.size_toArray,List.length_cons,List.length_nil,Nat.reduceAdd,Nat.reduceSub,Array.replicate_succ,Array.replicate_zero,List.push_toArray,List.append_toArray,List.nil_append,List.cons_append]
 gi_wp2_with (gi_at_call 65;refine(allL_in F (n-1) h3 hro _ _).mono ?_;rintro e w' ⟨rfl,rfl⟩)
 have bO:=((Boxed.new w 139 (.slice none 0 0)).alloc (.cells #[.slice none 0 0] 67)).alloc (.cells #[.bool false] 4);have bT:=(Boxed.new (w.alloc (.cells #[.slice none 0 0] 139)) 67 (.slice none 0 0)).alloc (.cells #[.bool false] 4);have bF:=Boxed.new ((w.alloc (.cells #[.slice none 0 0] 139)).alloc (.cells #[.slice none 0 0] 67)) 4 (.bool false);have bI:=Boxed.new (((w.alloc (.cells #[.slice none 0 0] 139)).alloc (.cells #[.slice none 0 0] 67)).alloc (.cells #[.bool false] 4)) 68 (.pointer (some ⟨th,0,none⟩));have bO:=bO.alloc (.cells #[.pointer (some ⟨th,0,none⟩)] 68);have bT:=bT.alloc (.cells #[.pointer (some ⟨th,0,none⟩)] 68);have bF:=bF.alloc (.cells #[.pointer (some ⟨th,0,none⟩)] 68);simp only [World.size_alloc] at bT bF bI;have b3:Below w.heap.size w ((((w.alloc (.cells #[.slice none 0 0] 139)).alloc (.cells #[.slice none 0 0] 67)).alloc (.cells #[.bool false] 4)).alloc (.cells #[.pointer (some ⟨th,0,none⟩)] 68)):=((((Below.refl w.heap.size w).alloc (Nat.le_refl _) _).alloc (by simp) _).alloc (by simp;omega) _).alloc (by simp;omega) _;have hsz:((((w.alloc (.cells #[.slice none 0 0] 139)).alloc (.cells #[.slice none 0 0] 67)).alloc (.cells #[.bool false] 4)).alloc (.cells #[.pointer (some ⟨th,0,none⟩)] 68)).heap.size=w.heap.size+4:=by simp
 obtain⟨W0,hW0⟩:∃ W0,(((w.alloc (.cells #[.slice none 0 0] 139)).alloc (.cells #[.slice none 0 0] 67)).alloc (.cells #[.bool false] 4)).alloc (.cells #[.pointer (some ⟨th,0,none⟩)] 68)=W0:=⟨_,rfl⟩;rw [hW0] at bO bT bF bI b3 hsz ⊢;clear hW0 c3;have hza:os.attach.length=os.length:=List.length_attach
 have hR0:RwsL (fun x:{o:GOw // o∈os}=>slA x.1.lv) (fun x=>slN x.1.lv) (fun x=>slC x.1.lv) (fun x=>⟨x.1.blk,0,none⟩) w.heap.size w rv os.attach:=by
  refine rwsL_own _ _ _ _ (B:=B) (e:=147) _ ?_;have hr:=HX.out.1.rows
  have e1:(os.attach.map fun x:{o:GOw // o∈os}=>((Value.slice (slA x.1.lv) (slN x.1.lv) (slC x.1.lv)),(Value.pointer (some (⟨x.1.blk,0,none⟩:Addr)))))=owRs os:=by
   rw [owRs]
   conv=>rhs;rw [<- List.attach_map_subtype_val os]
   rw [List.map_map];refine List.map_congr_left (fun x _=>?_);simp only [Function.comp,ptr];rw [<- sl_eq (HX.out.2.1 x.1 x.2).row]
  rw [e1];rw [show(owRs os).length=os.attach.length by simp [owRs]] at hr;exact hr
 have kh3:W0.cell? ⟨th,1,none⟩=some rv:=(b3.cell (p:=⟨th,1,none⟩) hth).trans ((blk_cell HX.out.1.head 1).trans rfl)
 refine wpIn_rangeFunc_ownG hro n1 (gf:=99) (lb:=#[.pointer (some ⟨w.heap.size+1+1+1,0,none⟩)]) rfl h4 (enters_of Tryz.func99 (by kernel_rfl) rfl)
  (allStopsL (fun x:{o:GOw // o∈os}=>slA x.1.lv) (fun x=>slN x.1.lv) (fun x=>slC x.1.lv) (fun x=>⟨x.1.blk,0,none⟩) F (n-1) h4 hro (by omega) (w.heap.size+1+1+1) th w.heap.size rv os.attach (by omega) W0 (by omega) hth (by omega) bI.cell kh3 (hR0.below b3)) belowK_t (belowK_b (by omega)) (Below.refl _ _) (fun _=>rfl)
  (fun pre W=>((∃ v,Boxed W w.heap.size 139 v∧W.ownsRow w.heap.size 103 1 v (belK (pre.map (·.1))).2.length ((belK (pre.map (·.1))).2.map fun o=>ptr o.blk)∧True)∧(Boxed W (w.heap.size+1) 67 (tailV (belK (pre.map (·.1))).1)∧Boxed W (w.heap.size+1+1) 4 (.bool (belK (pre.map (·.1))).1.isSome)))∧Below w.heap.size w W)
  (fun _ _ _=>False)
  (OwnFrom.and (OwnFrom.and (Own.from (holdsRow_own w.heap.size w.heap.size 139 103 1 (fun pre:List {o:GOw // o∈os}=>(belK (pre.map (·.1))).2.length) (fun pre=>(belK (pre.map (·.1))).2.map fun o=>ptr o.blk) (fun pre v=>True)) _) (OwnFrom.and (Own.from (boxed_own _ _ (fun pre:List {o:GOw // o∈os}=>tailV (belK (pre.map (·.1))).1)) _) (Own.from (boxed_own _ _ (fun pre:List {o:GOw // o∈os}=>Value.bool (belK (pre.map (·.1))).1.isSome)) _))) (ownFrom_below (Nat.le_refl _) (by omega)))
  (fun _ _ _ _ _ hs _ _=>hs)
  ⟨⟨⟨_,bO,World.ownsRow_nil _ _ _ _,trivial⟩,bT,bF⟩,b3⟩
  (fun x=>{tmps:=#[.pointer (some ⟨bb,oo,none⟩),undef,.slice none 0 0,.pointer (some ⟨w.heap.size,0,none⟩),.pointer (some ⟨w.heap.size+1,0,none⟩),.pointer (some ⟨w.heap.size+1+1,0,none⟩),.slice (slA x.1.lv) (slN x.1.lv) (slC x.1.lv),.pointer (some ⟨x.1.blk,0,none⟩),.pointer (some ⟨bb,oo,none⟩),.pointer (some ⟨bb,oo,none⟩),.pointer (some ⟨bb,oo+1,none⟩),.pointer (some ⟨th,0,none⟩),.func (.func 99) #[] #[.pointer (some ⟨w.heap.size+1+1+1,0,none⟩)],.slice (slA x.1.lv) (slN x.1.lv) (slC x.1.lv),.pointer (some ⟨x.1.blk,0,none⟩),undef,undef,undef,undef,undef,undef,undef,undef,undef,undef,undef,undef,undef,undef,undef,undef],defers:=[]}) ?assign ?body ?done ?stop
 case assign=>
  intro l x W K hK
  gi_wp2
  exact hK
 case body=>
  rintro l pre x W ⟨⟨⟨v,hv,hrow,-⟩,hT,hF⟩,hB⟩ hlt;have eS:belK ((pre++[x]).map (·.1))=belStep (belK (pre.map (·.1))) x.1:=by rw [List.map_append,List.map_cons,List.map_nil,belK_snoc]
  have hln:=belK_len (pre.map (·.1));rw [List.length_map] at hln
  have hmem:∀ q,(belK (pre.map (·.1))).1=some q->q∈os:=fun q hq=>by
   obtain⟨y,_,rfl⟩:=List.mem_map.1 (belK_mem _ q hq);exact y.2
  have n2:1<=n-1-1:=by omega
  have hm:os.attach.length<=maxLen:=by unfold maxLen;omega
  have HE:=Nm.hide eS;clear eS;generalize belK (pre.map (·.1))=ST at hrow hT hF hln hmem HE;obtain⟨t,out⟩:=ST;simp only at hrow hT hF hln hmem
  have HLN:=Nm.hide (And.intro hln hlt);clear hln;have cF:=hF.cell
  cases t with
  |none=>
   simp only [tailV,Option.isSome_none] at hT hF cF;clear hmem
   cases h39:has39 x.1 with
   |true=>
    have hh:=HX.out.2.2.2 x.1 (n-1-1-1) W x.2 hB;rw [h39] at hh;have e9:belK ((pre++[x]).map (·.1))=(some x.1,out):=by rw [HE.out];simp [belStep,h39]
    have HE9:=Nm.hide e9;clear h39 e9 HE
    gi_wp2_with (
     gi_at_call 94
     refine(CallsIn.inRound l hh).mono ?_;rintro e w2 ⟨rfl,b2⟩;have hT2:Boxed w2 _ _ _:=blk_below hT b2;have hF2:Boxed w2 _ _ _:=blk_below hF b2;have hv2:Boxed w2 _ _ _:=blk_below hv b2;have hrow2:=own_below hrow b2;have cT2:=hT2.cell;have fT2:=hT2.frozen;have cF2:=hF2.cell
     have fF2:=hF2.frozen)
    have k2:=(keeps_below b2).trans ((KeepsOthers.setCell w2 ⟨w.heap.size+1,0,none⟩ (.slice (slA x.1.lv) (slN x.1.lv) (slC x.1.lv))).trans (KeepsOthers.setCell _ ⟨w.heap.size+1+1,0,none⟩ (.bool true)));have bb2:=((b2.mono hB.size).setCell (p:=⟨w.heap.size+1,0,none⟩) (by simp) (.slice (slA x.1.lv) (slN x.1.lv) (slC x.1.lv))).setCell (p:=⟨w.heap.size+1+1,0,none⟩) (by simp;omega) (.bool true);refine⟨k2.from _,bb2,?_,hB.trans bb2⟩;rw [HE9.out];have o2:=own_far (i:=0) (y:=.slice (slA x.1.lv) (slN x.1.lv) (slC x.1.lv)) hrow2 (own_nb hrow2 hT2 (by decide));have hF3:=hF2.other (show w.heap.size+1+1≠w.heap.size+1 by omega) (.slice (slA x.1.lv) (slN x.1.lv) (slC x.1.lv));have hv3:=hv2.other (show w.heap.size≠w.heap.size+1 by omega) (.slice (slA x.1.lv) (slN x.1.lv) (slC x.1.lv));have hT3:=hT2.set (.slice (slA x.1.lv) (slN x.1.lv) (slC x.1.lv))
    exact⟨⟨_,hv3.other (by omega) _,own_far o2 (own_nb o2 hF3 (by decide)),trivial⟩,hT3.other (by omega) _,hF3.set _⟩
   |false=>
    have hh:=HX.out.2.2.2 x.1 (n-1-1-1) W x.2 hB;rw [h39] at hh;have e9:belK ((pre++[x]).map (·.1))=(none,out):=by rw [HE.out];simp [belStep,h39]
    have HE9:=Nm.hide e9;clear h39 e9 HE
    gi_wp2_with (
     gi_at_call 94
     refine(CallsIn.inRound l hh).mono ?_;rintro e w2 ⟨rfl,b2⟩;have hT2:Boxed w2 _ _ _:=blk_below hT b2;have hF2:Boxed w2 _ _ _:=blk_below hF b2;have hv2:Boxed w2 _ _ _:=blk_below hv b2
     have hrow2:=own_below hrow b2)
    refine⟨(keeps_below b2).from _,b2.mono hB.size,?_,hB.trans (b2.mono hB.size)⟩;rw [HE9.out]
    exact⟨⟨_,hv2,hrow2,trivial⟩,hT2,hF2⟩
  |some q=>
   simp only [tailV,Option.isSome_some] at hT hF cF;have hq:=hmem q rfl;clear hmem;have cT:=hT.cell
   cases hu:underB x.1.lab q.lab with
   |true=>
    have hh:=HX.out.2.2.1 x.1 q (n-1-1-1) W x.2 hq hB;rw [hu] at hh;have e9:belK ((pre++[x]).map (·.1))=(some q,out++[x.1]):=by rw [HE.out];simp [belStep,hu]
    have HE9:=Nm.hide e9;clear hu e9 HE
    gi_wp2_with (first
     |(gi_at_call 113
       refine(CallsIn.inRound l hh).mono ?_;rintro e w2 ⟨rfl,b2⟩;have hT2:Boxed w2 _ _ _:=blk_below hT b2;have hF2:Boxed w2 _ _ _:=blk_below hF b2;have hv2:Boxed w2 _ _ _:=blk_below hv b2;have hrow2:=own_below hrow b2;have hs2:=b2.size
       have cv2:=hv2.cell)
     |(gi_at_builtin
       refine wpListIn_append_own _ rfl _ _ 139 rfl w.heap.size 103 i0 (.pointer none) 1 8 Tryz.underlying139 hi hz0 hz1 hz2 rfl (by decide) _ _ _ rfl (hrow2.alloc _) ⟨w2.heap.size,0,none⟩ 1 1 [.pointer (some ⟨x.1.blk,0,none⟩)] rfl rfl (cell_one_new _ _ _) (by simp [Value.oneCell']) (by unfold maxLen;have:=HLN.out;omega) (by have:=HLN.out;omega) (by have:=hB.size;simp;omega) ?_;intro v' w3 hown' hgrow _;obtain⟨g',cap',rfl⟩:=ownsRow_succ hown';have hap:=hv2.appended (by decide) hrow2 (by have:=hB.size;omega) (Nat.le_refl _) hown' hgrow;obtain⟨q1,q2,q3,q4,q5⟩:=hap;have cv3:=q1.cell
       have fv3:=q1.frozen))
    have hra:(w2.alloc (.cells #[.pointer (some ⟨x.1.blk,0,none⟩)] 103)).ownsRow w.heap.size 103 1 v out.length (out.map fun o=>ptr o.blk):=hrow2.alloc _;have hT2a:Blk (w2.alloc (.cells #[.pointer (some ⟨x.1.blk,0,none⟩)] 103)) (w.heap.size+1) #[.slice (slA q.lv) (slN q.lv) (slC q.lv)] 67:=blk_alloc hT2 _;have hF2a:Blk (w2.alloc (.cells #[.pointer (some ⟨x.1.blk,0,none⟩)] 103)) (w.heap.size+1+1) #[.bool true] 4:=blk_alloc hF2 _;have hT3:Boxed w3 (w.heap.size+1) 67 (.slice (slA q.lv) (slN q.lv) (slC q.lv)):=blk_grown hT2a hgrow (own_nb hra hT2a (by decide));have hF3:Boxed w3 (w.heap.size+1+1) 4 (.bool true):=blk_grown hF2a hgrow (own_nb hra hF2a (by decide));have kk:=(keeps_below b2).trans q4;have bk:=(b2.mono hB.size).trans q5;refine⟨kk.from _,bk,?_,hB.trans bk⟩;rw [HE9.out]
    exact⟨⟨_,q2,by simpa [ptr] using q3,trivial⟩,hT3.other (by omega) _,hF3.other (by omega) _⟩
   |false=>
    have hh:=HX.out.2.2.1 x.1 q (n-1-1-1) W x.2 hq hB;rw [hu] at hh;have hg:=fun W' (hW:Below w.heap.size w W')=>HX.out.2.2.2 x.1 (n-1-1-1) W' x.2 hW
    cases h39:has39 x.1 with
    |true=>
     rw [h39] at hg;have e9:belK ((pre++[x]).map (·.1))=(some x.1,out):=by rw [HE.out];simp [belStep,hu,h39]
     have HE9:=Nm.hide e9;clear hu h39 e9 HE
     gi_wp2_with (first
      |(gi_at_call 113
        refine(CallsIn.inRound l hh).mono ?_
        rintro e w1 ⟨rfl,b1⟩)
      |(gi_at_call 94
        refine(CallsIn.inRound l (hg _ (hB.trans (b1.mono hB.size)))).mono ?_;rintro e w2 ⟨rfl,b12⟩;have b2:=Nm.below_two b1 b12;have hT2:Boxed w2 _ _ _:=blk_below hT b2;have hF2:Boxed w2 _ _ _:=blk_below hF b2;have hv2:Boxed w2 _ _ _:=blk_below hv b2;have hrow2:=own_below hrow b2;have cT2:=hT2.cell;have fT2:=hT2.frozen;have cF2:=hF2.cell
        have fF2:=hF2.frozen))
     have k2:=(keeps_below b2).trans ((KeepsOthers.setCell w2 ⟨w.heap.size+1,0,none⟩ (.slice (slA x.1.lv) (slN x.1.lv) (slC x.1.lv))).trans (KeepsOthers.setCell _ ⟨w.heap.size+1+1,0,none⟩ (.bool true)));have bb2:=((b2.mono hB.size).setCell (p:=⟨w.heap.size+1,0,none⟩) (by simp) (.slice (slA x.1.lv) (slN x.1.lv) (slC x.1.lv))).setCell (p:=⟨w.heap.size+1+1,0,none⟩) (by simp;omega) (.bool true);refine⟨k2.from _,bb2,?_,hB.trans bb2⟩;rw [HE9.out];have o2:=own_far (i:=0) (y:=.slice (slA x.1.lv) (slN x.1.lv) (slC x.1.lv)) hrow2 (own_nb hrow2 hT2 (by decide));have hF3:=hF2.other (show w.heap.size+1+1≠w.heap.size+1 by omega) (.slice (slA x.1.lv) (slN x.1.lv) (slC x.1.lv));have hv3:=hv2.other (show w.heap.size≠w.heap.size+1 by omega) (.slice (slA x.1.lv) (slN x.1.lv) (slC x.1.lv));have hT3:=hT2.set (.slice (slA x.1.lv) (slN x.1.lv) (slC x.1.lv))
     exact⟨⟨_,hv3.other (by omega) _,own_far o2 (own_nb o2 hF3 (by decide)),trivial⟩,hT3.other (by omega) _,hF3.set _⟩
    |false=>
     rw [h39] at hg;have e9:belK ((pre++[x]).map (·.1))=(some q,out):=by rw [HE.out];simp [belStep,hu,h39]
     have HE9:=Nm.hide e9;clear hu h39 e9 HE
     gi_wp2_with (first
      |(gi_at_call 113
        refine(CallsIn.inRound l hh).mono ?_
        rintro e w1 ⟨rfl,b1⟩)
      |(gi_at_call 94
        refine(CallsIn.inRound l (hg _ (hB.trans (b1.mono hB.size)))).mono ?_;rintro e w2 ⟨rfl,b12⟩;have b2:=Nm.below_two b1 b12;have hT2:Boxed w2 _ _ _:=blk_below hT b2;have hF2:Boxed w2 _ _ _:=blk_below hF b2;have hv2:Boxed w2 _ _ _:=blk_below hv b2
        have hrow2:=own_below hrow b2))
     refine⟨(keeps_below b2).from _,b2.mono hB.size,?_,hB.trans (b2.mono hB.size)⟩;rw [HE9.out];exact⟨⟨_,hv2,hrow2,trivial⟩,hT2,hF2⟩
 case done=>
  rintro D ys W hD rfl ⟨⟨⟨v,hv,hrow,-⟩,hT,hF⟩,hB⟩ hK;rw [List.attach_map_subtype_val] at hrow;have hc:=hv.cell
  gi_wp2
  refine⟨by simp,.inl ⟨_,_,rfl,run_takeDeferred hK,?_⟩⟩;exact⟨_,results_tmp rfl _ _ _,v,rfl,ownsRow_putObj hrow _ hK rfl,hB.trans (belowK_b (w:=w) (Nat.le_refl _) W D _ _ (by omega) hK rfl rfl)⟩
 case stop=>
  rintro D c pre W _ _ h _;exact h.elim
theorem belowTails_any(bb oo th:Nat)(rv:Value)(os:List GOw)(B:Nat)(w:World)(h:TrAt w B th rv os)(hd:TrS os)(hl:os.length<=400000)(hLab:LabAt w (fpT th rv os) os)(hc:w.cell? ⟨bb,oo+1,none⟩=some (ptr th)):
 Calls Tryz.prog 95 #[.pointer (some ⟨bb,oo,none⟩)] w fun e W'=>∃ v,e=.returned v∧W'.ownsRow w.heap.size 103 1 v (belK os).2.length ((belK os).2.map fun o=>ptr o.blk)∧Below w.heap.size w W':=
 (callsIn_wide (n:=6)).1 (belowTails_in Fence.wide 6 trivial trivial trivial trivial trivial rfl (by omega) bb oo th rv os B w h hl hLab hc
  (fun o q m W ho hq hW=>callsIn_wide.2 (by
   have lo:=hLab o ho;have lq:=hLab q hq;have hu:=under_any o.lv q.lv o.lab q.lab W (lo.row.below hW) (lq.row.below hW) lo.fit.1 lo.fit.2 lq.fit.2;rw [sl_eq lo.row,sl_eq lq.row] at hu;refine hu.mono ?_;rintro e w' ⟨rfl,m',rfl⟩
   exact⟨rfl,Go.below_drewN (Below.refl _ _) _⟩))
  (fun o m W ho hW=>callsIn_wide.2 (ownerHas_any o B 39 W ((h.owners o ho).below hW) (by have:=(hd.2 o ho).2.1;omega) (hd.2 o ho).1)))
end Go.Proofs.YtmdinnjimioffaaGreat
namespace Go.Proofs.YtmdinnjimioffaaGreat
open Go.RowKit
set_option linter.unusedVariables false
def rsV(c i:Int):Ending:=.returned (.tuple #[.int .i64 c,.int .i64 i])
theorem outs_set{W:World}{b i:Nat}{v:Value}:Outs [b] W (W.setCell ⟨b,i,none⟩ v):=⟨rfl,rfl,rfl,by simp,fun k _ hk=>heap_setCell_other W ⟨b,i,none⟩ k _ (by simpa using hk)⟩
set_option maxRecDepth 100000 in
set_option maxHeartbeats 1600000 in
theorem checkSize_any(bb:Nat)(la:Option Addr)(ln lc:Nat)(apex:ByteArray)(w:World)(hk:Blk w bb #[.slice la ln lc,.string apex,.slice none 0 0,.slice none 0 0,.pointer none,.slice none 0 0] 73)(ha:apex.size<=maxLen):
 Calls Tryz.prog 55 #[.pointer (some ⟨bb,0,none⟩)] w fun e w'=>
  (Nm.split apex=none∧e=rsV 32 (-1)∧Below w.heap.size w w')∨(Nm.split apex≠none∧500<ln∧e=rsV 12 (-1)∧Below w.heap.size w w')∨
  (∃ xs aa ac th,Nm.split apex=some xs∧ln<=500∧e=rsV 0 0∧Outs [bb] w w'∧Blk w' bb #[.slice la ln lc,.string apex,.slice none 0 0,.slice aa xs.length ac,ptr th,.slice none 0 0] 73∧Blk w' th #[cmpLv,.slice none 0 0] 145∧w'.ownsRow w.heap.size 9 1 (.slice aa xs.length ac) xs.length (xs.map Value.string)∧w.heap.size<=th):=by
 have rk:=fun i=>blk_cell hk i
 have hs:=splitName_any apex w ha;have hbl:=blk_lt hk
 cases hsp:Nm.split apex with
 |none=>
  rw [hsp] at hs;simp only [Option.isSome_none,Option.getD_none] at hs;clear hsp;go_enter Tryz.func55,Tryz.ntmps55;go_wp2_with fail
  refine hs.mono ?_;rintro e w1 ⟨v,rfl,ho,b1⟩;clear hs;go_wp2;go_ret2
  exact .inl ⟨trivial,rfl,b1⟩
 |some xs=>
  rw [hsp] at hs;simp only [Option.isSome_some,Option.getD_some] at hs
  by_cases hln:500<ln
  ·have i1:(500:Int)<(ln:Int):=by omega
   have HL:=Nm.hide hln;clear hsp hln;go_enter Tryz.func55,Tryz.ntmps55;go_wp2_with fail
   refine hs.mono ?_;rintro e w1 ⟨v,rfl,ho,b1⟩;have rk1:=fun i=>blk_cell (blk_below hk b1) i
   clear hs rk;go_wp2;go_ret2;exact .inr (.inl ⟨by simp,HL.out,rfl,b1⟩)
  ·have i1:¬(500:Int)<(ln:Int):=by omega
   have HL:=Nm.hide hln;clear hsp hln;go_enter Tryz.func55,Tryz.ntmps55;go_wp2_with fail
   refine hs.mono ?_;rintro e w1 ⟨v,rfl,ho,b1⟩;obtain⟨aa,ac,rfl⟩:=own_sl ho;have k1:=blk_below hk b1;have rk1:=fun i=>blk_cell k1 i
   have b2:=(Below.refl w1.heap.size w1).alloc (Nat.le_refl _) (.cells #[cmpLv,.slice none 0 0] 145);have kt:=blk_new w1 #[cmpLv,.slice none 0 0] 145;have k2:=blk_below k1 b2;have rk2:=fun i=>blk_cell k2 i
   have fk2:=fun i=>blk_frozen k2 i
   have o2:=own_below ho b2;have hn:=newTableL_any (.func 84) w1;unfold ptr at hn;unfold cmpLv at kt rk2 fk2;clear hs rk;go_wp2_with (go_at_call 83;refine hn.mono ?_;rintro e w2 ⟨rfl,rfl⟩)
   go_ret2;have k3:=blk_set (blk_set k2 3 (.slice aa xs.length ac)) 4 (.pointer (some ⟨w1.heap.size,0,none⟩));simp only [List.setIfInBounds_toArray,List.set_cons_zero,List.set_cons_succ] at k3;have hne:bb≠w1.heap.size:=by have:=b1.size;omega
   refine .inr (.inr ⟨xs,aa,ac,w1.heap.size,rfl,by have:=HL.out;omega,rfl,?_,k3,?_,?_,b1.size⟩)
   ·have h9:=(Outs.below (fp:=[bb]) (Nm.below_two b1 b2)).trans (outs_set (b:=bb) (i:=3) (v:=.slice aa xs.length ac)) (fun k hk=>.inl hk);exact h9.trans (outs_set (b:=bb) (i:=4) (v:=.pointer (some ⟨w1.heap.size,0,none⟩))) (fun k hk=>.inl hk)
   ·exact blk_grown (blk_grown kt (grown_setC _ bb 3 _) (fun e=>by cases e;exact hne rfl)) (grown_setC _ bb 4 _) (fun e=>by cases e;exact hne rfl)
   ·have o3:=own_far (i:=3) (y:=.slice aa xs.length ac) o2 (own_nb o2 k2 (by decide));exact own_far o3 (own_nb o3 (blk_set k2 3 (.slice aa xs.length ac)) (by decide))
theorem one_rec{r:Rr}{apex:ByteArray}{xs ys:List ByteArray}(hx:Nm.split r.own=some xs)(hy:Nm.split apex=some ys):oneC r apex=recC r xs ys:=by
 rw [oneC,recC,hx,isUnder_some hx hy];simp only [Option.isSome_some,Bool.true_eq_false,if_false];split
 ·rfl
 ·split
  ·rfl
  ·by_cases h1:(decide (0<=r.ty)&&decide (r.ty<=65535))=false
   ·rw [if_pos h1,if_pos ?_];simp only [Bool.and_eq_false_iff,decide_eq_false_iff_not] at h1
    rcases h1 with h1|h1
    ·exact .inr (.inl (by omega))
    ·exact .inr (.inr (by omega))
   ·rw [if_neg h1]
    by_cases h2:metaB r.ty=true
    ·rw [if_pos h2,if_pos (.inl h2)]
    ·rw [if_neg h2,if_neg ?_];simp only [Bool.and_eq_false_iff,decide_eq_false_iff_not,not_or,Decidable.not_not] at h1
     rintro(h3|h3|h3)
     ·exact h2 h3
     ·omega
     ·omega
theorem one_bad{r:Rr}{apex:ByteArray}(hx:Nm.split r.own=none):oneC r apex=1:=by rw [oneC,hx];rfl
theorem wsum_len:∀ (xs:List ByteArray),xs.length<=Nm.wsum xs:=by
 intro xs
 induction xs with
 |nil=>simp [Nm.wsum]
 |cons x xs ih=>simp only [List.length_cons,Nm.wsum];omega
theorem lab_fit{s:ByteArray}{xs:List ByteArray}(h:Nm.split s=some xs):(∀ x∈xs,x.size<=1000000000)∧xs.length<=255:=by
 have h1:=Nm.split_join h;have h2:=Nm.split_size h;have h3:=wsum_len xs;exact⟨fun x hx=>by have:=h1.2 x hx;omega,by omega⟩
theorem outs_grown{fp:List Nat}{w W W':World}{row:Option Nat}(h:Outs fp w W)(hg:W.grownBy W' row)(hr:∀ g,row=some g->w.heap.size<=g):Outs fp w W':=
 ⟨hg.os.trans h.os,hg.tape.trans h.tape,hg.output.trans h.output,Nat.le_trans h.size hg.size,fun k hk hn=>(hg.block k (Nat.lt_of_lt_of_le hk h.size) (fun e=>by have:=hr k e.symm;omega)).trans (h.block k hk hn)⟩
theorem outs_cell{fp:List Nat}{w W:World}{p:Addr}{v:Value}(h:Outs fp w W)(hc:w.cell? p=some v)(hn:p.block∉fp):W.cell? p=some v:=by
 have hlt:=World.block_lt_of_cell? w _ hc;rw [World.cell?_of_block (w:=w) (h.block p.block hlt hn)];exact hc
theorem srow_outs{fp:List Nat}{w W:World}{v:Value}{xs:List ByteArray}(h:Outs fp w W)(hs:Nm.SRow w v xs)(hn:xs≠[]->∀ b,rowBlk v=some b->b∉fp):Nm.SRow W v xs:=by
 obtain⟨a,cap,rfl,h1,h2,h3,h4⟩:=hs;refine⟨a,cap,rfl,h1,h2,h3,fun hne=>?_⟩;obtain⟨b,off,rfl,hc⟩:=h4 hne;exact⟨b,off,rfl,fun k x hx=>outs_cell h (hc k x hx) (hn hne b rfl)⟩
theorem srow_own{w:World}{B:Nat}{v:Value}{xs:List ByteArray}(h:w.ownsRow B 9 1 v xs.length (xs.map Value.string)):Nm.SRow w v xs:=Nm.SRow.of_owns h
structure LbRow (W:World) (B:Nat) (v:Value) (lvs:List Value) (xss:List (List ByteArray)):Prop where
 outer:W.ownsRow B 67 1 v lvs.length lvs
 len:lvs.length=xss.length
 inner:∀ (i:Nat) (u:Value) (xs:List ByteArray),lvs[i]? =some u->xss[i]? =some xs->W.ownsRow B 9 1 u xs.length (xs.map Value.string)
theorem LbRow.nil(W:World)(B:Nat):LbRow W B (.slice none 0 0) [] []:=⟨World.ownsRow_nil _ _ _ _,rfl,by simp⟩
theorem LbRow.below{W W':World}{B:Nat}{v:Value}{lvs:List Value}{xss:List (List ByteArray)}(h:LbRow W B v lvs xss)(hb:Below W.heap.size W W'):LbRow W' B v lvs xss:=
 ⟨own_below h.outer hb,h.len,fun i u xs h1 h2=>own_below (h.inner i u xs h1 h2) hb⟩
theorem LbRow.set{W:World}{B b i:Nat}{v y:Value}{cs:Array Value}{lvs:List Value}{xss:List (List ByteArray)}(h:LbRow W B v lvs xss)(hb:Blk W b cs 73):LbRow (W.setCell ⟨b,i,none⟩ y) B v lvs xss:=
 ⟨own_far h.outer (own_nb h.outer hb (by decide)),h.len,fun j u xs h1 h2=>own_far (h.inner j u xs h1 h2) (own_nb (h.inner j u xs h1 h2) hb (by decide))⟩
theorem LbRow.snoc{W W1:World}{B:Nat}{v v' u:Value}{lvs:List Value}{xs:List ByteArray}{xss:List (List ByteArray)}(h:LbRow W B v lvs xss)(hu:W.ownsRow B 9 1 u xs.length (xs.map Value.string))
 (ho:W1.ownsRow B 67 1 v' (lvs.length+1) (lvs++[u])) (hg:W.grownBy W1 v.ownBlock):LbRow W1 B v' (lvs++[u]) (xss++[xs]):=by
 refine⟨by simpa using ho,by simp [h.len],fun i y zs h1 h2=>?_⟩
 rcases snoc_cases h1 with⟨hi,h1'⟩|⟨hi,rfl⟩
 ·rw [List.getElem?_append_left (by rw [<- h.len];exact hi)] at h2;have:=h.inner i y zs h1' h2;exact own_besideZ this hg (own_kindsZ this h.outer (by decide))
 ·rw [hi,h.len,List.getElem?_append_right (Nat.le_refl _)] at h2;simp at h2;subst h2;exact own_besideZ hu hg (own_kindsZ hu h.outer (by decide))
theorem infoLl:(Tryz.prog.info? 67).map (fun i=>(i.zero,i.size,i.bytes))=some (some (.slice none 0 0),1,24):=by kernel_rfl
def labsOf(l:List Rr):List (List ByteArray):=l.map fun r=>(Nm.split r.own).getD []
set_option maxRecDepth 100000 in
set_option maxHeartbeats 3200000 in
theorem checkRecords_any(bb:Nat)(la:Option Addr)(lc:Nat)(list:List Rr)(apex:ByteArray)(ys:List ByteArray)(aa:Option Addr)(ac:Nat)(tv:Value)(w:World)(hk:Blk w bb #[.slice la list.length lc,.string apex,.slice none 0 0,.slice aa ys.length ac,tv,.slice none 0 0] 73)
 (h:CRow w (.slice la list.length lc) list.length 5 (rvVs list)) (hfar:0<list.length->rowBlk (.slice la list.length lc)≠some bb) (hl:list.length<=500) (hap:Nm.split apex=some ys) (hav:Nm.SRow w (.slice aa ys.length ac) ys) (hafar:rowBlk (.slice aa ys.length ac)≠some bb) (ho:∀ r∈list,r.own.size<=maxLen∧r.da.size<=2000000):
 Calls Tryz.prog 56 #[.pointer (some ⟨bb,0,none⟩)] w fun e w'=>Outs [bb] w w'∧
  ((∃ c i,badOne apex list 0=some (c,i)∧e=rsV c i)∨
  (badOne apex list 0=none∧e=rsV 0 0∧∃ labv lvs,Blk w' bb #[.slice la list.length lc,.string apex,labv,.slice aa ys.length ac,tv,.slice none 0 0] 73∧LbRow w' w.heap.size labv lvs (labsOf list))):=by
 obtain⟨i0,hi,hz0,hz1,hz2⟩:=info_parts infoLl;have rk:=fun i=>blk_cell hk i
 have hbl:=blk_lt hk;obtain⟨_,a,cap,e,hcap,hmx,hc⟩:=h;cases e
 unfold maxLen at hmx;have HX:=Nm.hide (And.intro hfar (And.intro hap (And.intro hav (And.intro hafar ho))));clear hfar hap hav hafar ho;have HK:=Nm.hide hk;clear hk;go_enter Tryz.func56,Tryz.ntmps56;go_wp2
 go_loopw [14] (fun i wr=>∃ (k:Nat) (labv:Value) (lvs:List Value),k<=list.length∧i=.int .i64 k∧(∀ (j:Nat) (x:Rr),j<k->list[j]? =some x->oneC x apex=0)∧Blk wr bb #[.slice la list.length lc,.string apex,labv,.slice aa ys.length ac,tv,.slice none 0 0] 73∧LbRow wr w.heap.size labv lvs (labsOf (list.take k))∧Outs [bb] w wr) (fun i _=>list.length-(intOf i).toNat)
 case atStart=>exact⟨0,.slice none 0 0,[],Nat.zero_le _,rfl,fun j x hj=>absurd hj (Nat.not_lt_zero _),HK.out,LbRow.nil _ _,Outs.below (Below.refl _ _)⟩
 case round=>
  obtain⟨k,labv,lvs,hk',rfl,hno,kb,lr,hou⟩:=hrel;have HR:=Nm.hide (And.intro hno (And.intro kb (And.intro lr hou)))
  by_cases hlt:k<list.length
  ·obtain⟨x,hx⟩:∃ x,list[k]? =some x:=⟨_,List.getElem?_eq_getElem hlt⟩;obtain⟨b,off,rfl,hcell⟩:=hc (by omega);have hnb:b∉[bb]:=fun hm=>HX.out.1 (by omega) (by rw [List.mem_singleton.1 hm];rfl)
   obtain⟨d0,d1,d2,d3,d4⟩:=rv_cells (w:=wr) (fun i y hy=>outs_cell hou (hcell i y hy) hnb) hx;have hxo:=HX.out.2.2.2.2 x (List.mem_of_getElem? hx);have kr:=blk_new wr #[.string x.own,.int .i64 x.ty,.int .i64 x.cl,.int .i64 x.tt,.string x.da] 33;have ba:=(Below.refl wr.heap.size wr).alloc (Nat.le_refl _) (.cells #[.string x.own,.int .i64 x.ty,.int .i64 x.cl,.int .i64 x.tt,.string x.da] 33);have hsn:=splitName_any x.own (wr.alloc (.cells #[.string x.own,.int .i64 x.ty,.int .i64 x.cl,.int .i64 x.tt,.string x.da] 33)) hxo.1;have HXX:=Nm.hide hx;have i1:(0:Int)<=(k:Int):=by omega
   have i2:(k:Int)<(list.length:Int):=by omega
   clear hc hcell hx hno kb lr hou hnb rk;go_wp2_with fail
   refine hsn.mono ?_;rintro e w2 ⟨v,rfl,hv2,b2⟩;have b2':=Nm.below_two ba b2;have kr2:=blk_below kr b2
   cases hsp:Nm.split x.own with
   |none=>
    rw [hsp] at hv2;simp only [Option.isSome_none];have HB:=Nm.hide (one_bad (apex:=apex) hsp);clear hsn hsp d0 d1 d2 d3 d4;go_wp2;go_ret2;refine⟨HR.out.2.2.2.trans (Outs.below b2' (fp:=[bb])) (fun k hk=>.inl hk),.inl ⟨1,k,?_,rfl⟩⟩;have:=badOne_at (apex:=apex) list k 0 x HR.out.1 HXX.out (by rw [HB.out];decide)
    rw [this,HB.out,Nat.zero_add]
   |some xs=>
    rw [hsp] at hv2;simp only [Option.isSome_some,Option.getD_some] at hv2 ⊢;obtain⟨va,vc,rfl⟩:=own_sl hv2;have ou2:Outs [bb] w w2:=HR.out.2.2.2.trans (Outs.below b2' (fp:=[bb])) (fun k hk=>.inl hk);have kb2:=blk_below HR.out.2.1 b2';have c3:=(blk_cell kb2 3).trans rfl;have hav2:=srow_outs ou2 HX.out.2.2.1 (fun _ b hb hm=>HX.out.2.2.2.1 (by rw [hb,List.mem_singleton.1 hm]));have hfx:=lab_fit hsp;have hfy:=lab_fit HX.out.2.1;have hcr:=checkRecord_any x bb (.slice va xs.length vc) (.slice aa ys.length ac) xs ys w2 hxo.2 (srow_own hv2) hav2 c3 hfx.1 (by omega) (by omega);rw [<- one_rec hsp HX.out.2.1] at hcr;have HSP:=Nm.hide hsp;have HOU:=Nm.hide ou2;have rr2:=fun i=>blk_cell kr2 i
    clear hsn hsp d0 d1 d2 d3 d4 hav2 ou2;obtain⟨OC,hOC⟩:∃ OC,OC=oneC x apex:=⟨_,rfl⟩;rw [<- hOC] at hcr;have HOC:=Nm.hide hOC;clear hOC
    by_cases h0:OC=0
    ·subst h0;have hlr:=HR.out.2.2.1
     have hlk:lvs.length=k:=by
      rw [hlr.len,labsOf,List.length_map,List.length_take];omega
     have HLK:=Nm.hide hlk;clear hlk
     go_wp2_with (first
      |(go_at_call 85
        refine hcr.mono ?_;rintro e w3 ⟨rfl,b3⟩;have b3':=Nm.below_two b2' b3;have kb3:=blk_below kb2 b3;have rk3:=fun i=>blk_cell kb3 i
        have lr3:=hlr.below b3';have hv3:=own_below hv2 b3
        have lr3o:=lr3.outer)
      |(at_builtin
        refine wpList_append_own _ rfl _ _ 66 rfl w.heap.size 67 i0 (.slice none 0 0) 1 24 Tryz.underlying66 hi hz0 hz1 hz2 rfl (by decide) _ _ _ rfl (own_below lr3o ((Below.refl _ _).alloc (Nat.le_refl _) _)) ⟨w3.heap.size,0,none⟩ 1 1 [.slice va xs.length vc] rfl rfl (cell_one_new _ _ _) (by simp [Value.oneCell']) (by unfold maxLen;have:=HLK.out;omega) (by have:=HLK.out;omega) (by have:=b3'.size;have:=HOU.out.size;have:=HR.out.2.2.2.size;simp;omega) ?_;intro v' w5 hown' hgrow _;obtain⟨g',cap',rfl⟩:=ownsRow_succ hown';have kb4:Blk (w3.alloc (.cells #[.slice va xs.length vc] 67)) bb #[.slice (some ⟨b,off,none⟩) list.length lc,.string apex,labv,.slice aa ys.length ac,tv,.slice none 0 0] 73:=blk_alloc kb3 _;have lr4:=lr3.below ((Below.refl _ w3).alloc (Nat.le_refl _) (.cells #[.slice va xs.length vc] 67));have kb5:=blk_grown kb4 hgrow (own_nb lr4.outer kb4 (by decide));have rk5:=fun i=>blk_cell kb5 i
        have fk5:=fun i=>blk_frozen kb5 i))
     have lr5:=lr4.snoc (own_base (own_below hv3 ((Below.refl _ w3).alloc (Nat.le_refl _) (.cells #[.slice va xs.length vc] 67))) (by have:=b2'.size;have:=HR.out.2.2.2.size;have:=ba.size;simp at*;omega)) hown' hgrow;have k6:=blk_set kb5 2 (.slice (some ⟨g',0,none⟩) (lvs.length+1) cap');simp only [List.setIfInBounds_toArray,List.set_cons_zero,List.set_cons_succ] at k6;have ou5:=outs_grown (outs_grown (HOU.out.trans (Outs.below b3 (fp:=[bb])) (fun k hk=>.inl hk)) (grown_of_below ((Below.refl _ w3).alloc (Nat.le_refl _) (.cells #[.slice va xs.length vc] 67))) (fun g e=>by cases e)) hgrow (fun g e=>(lr4.outer.lt g e).1);go_roundw
     case rel=>
      refine⟨k+1,_,lvs++[.slice va xs.length vc],by omega,by go_num,fun j y hj hy=>?_,k6,?_,ou5.trans (outs_set (b:=bb) (i:=2)) (fun k hk=>.inl hk)⟩
      ·rcases Nat.lt_succ_iff_lt_or_eq.1 hj with h1|rfl
       ·exact HR.out.1 j y h1 hy
       ·rw [HXX.out] at hy;cases hy;exact HOC.out.symm
      ·have e9:labsOf (list.take (k+1))=labsOf (list.take k)++[xs]:=by
        obtain⟨hkl,ex⟩:=List.getElem?_eq_some_iff.1 HXX.out;rw [List.take_succ_eq_append_getElem hkl,ex,labsOf,List.map_append,List.map_cons,List.map_nil,HSP.out];rfl
       rw [e9];exact lr5.set kb5
     case measure=>simp [intOf];omega
    ·have n0:(OC != 0)=true:=by simpa using h0
     have H0:=Nm.hide h0;clear h0;go_wp2_with (go_at_call 85;refine hcr.mono ?_;rintro e w3 ⟨rfl,b3⟩)
     go_ret2;refine⟨HOU.out.trans (Outs.below b3 (fp:=[bb])) (fun k hk=>.inl hk),.inl ⟨OC,k,?_,rfl⟩⟩;have:=badOne_at (apex:=apex) list k 0 x HR.out.1 HXX.out (by rw [<- HOC.out];exact H0.out);rw [this,<- HOC.out,Nat.zero_add]
  ·have hke:k=list.length:=by omega
   subst hke;clear hc hno kb lr hou;go_wp2;go_ret2;refine⟨HR.out.2.2.2,.inr ⟨badOne_no _ _ HR.out.1,rfl,labv,lvs,HR.out.2.1,?_⟩⟩;have:=HR.out.2.2.1
   rwa [List.take_length] at this
def trTys:List TypeId:=[134,192,195,108,152,154,145,147]
def TyAt(W:World)(b:Nat)(ts:List TypeId):Prop:=∃ cs T r,W.heap[b]? =some (.cells cs T r)∧T∈ts
theorem ty_blk{W:World}{b:Nat}{cs:Array Value}{T:TypeId}{ts:List TypeId}(h:Blk W b cs T)(hT:T∈ts):TyAt W b ts:=⟨cs,T,_,h,hT⟩
theorem ty_own{W:World}{B e s n:Nat}{v:Value}{xs:List Value}{ts:List TypeId}(h:W.ownsRow B e s v n xs)(hT:e∈ts):∀ b∈v.ownBlock.toList,TyAt W b ts:=by
 intro b hb
 rcases h.2 with⟨rfl,_⟩|⟨q,cap,cur,rfl,_,hh,_⟩
 ·simp [Value.ownBlock] at hb
 ·simp [Value.ownBlock] at hb
  subst hb;exact⟨_,_,_,hh,hT⟩
theorem TrAt.types{W:World}{B th:Nat}{rv:Value}{os:List GOw}(h:TrAt W B th rv os):∀ b∈fpT th rv os,TyAt W b trTys:=by
 intro b hb;simp only [fpT,List.mem_cons,List.mem_append,List.mem_flatMap] at hb
 rcases hb with rfl|hb|⟨o,ho,hb⟩
 ·exact ty_blk h.head (by decide)
 ·exact ty_own h.rows (by decide) b hb
 ·have ow:=h.owners o ho;simp only [fpO,List.mem_cons,List.mem_append,List.mem_flatMap] at hb
  rcases hb with rfl|rfl|hb|⟨s,hs,hb⟩
  ·exact ty_blk ow.node (by decide)
  ·exact ty_blk ow.head (by decide)
  ·exact ty_own ow.rows (by decide) b hb
  ·have sw:=ow.sets s hs;simp only [fpS,List.mem_cons] at hb
   rcases hb with rfl|rfl|hb
   ·exact ty_blk sw.node (by decide)
   ·exact ty_blk sw.head (by decide)
   ·exact ty_own sw.rows (by decide) b hb
theorem own_out{W:World}{B e s n:Nat}{v:Value}{xs:List Value}{ts:List TypeId}{b:Nat}(h:W.ownsRow B e s v n xs)(ht:TyAt W b ts)(hT:e∉ts):b∉v.ownBlock.toList:=by
 intro hb;obtain⟨cs,T,r,h1,h2⟩:=ht
 rcases h.2 with⟨rfl,_⟩|⟨q,cap,cur,rfl,_,hh,_⟩
 ·simp [Value.ownBlock] at hb
 ·simp [Value.ownBlock] at hb
  subst hb;rw [hh] at h1;cases h1
  exact hT h2
theorem blk_out{W:World}{b c:Nat}{cs:Array Value}{T:TypeId}{ts:List TypeId}(h:Blk W c cs T)(ht:TyAt W b ts)(hT:T∉ts):b≠c:=by
 rintro rfl;obtain⟨cs',T',r,h1,h2⟩:=ht;rw [Blk] at h;rw [h] at h1;cases h1
 exact hT h2
theorem own_outs{fp:List Nat}{W W':World}{B e s n:Nat}{v:Value}{xs:List Value}(h:W.ownsRow B e s v n xs)(ho:Outs fp W W')(hn:∀ b∈fp,b∉v.ownBlock.toList):W'.ownsRow B e s v n xs:=
 own_keep h (fun b hb=>ho.block b (own_lt h b hb) (fun hm=>hn b hm hb))
theorem blk_outs{fp:List Nat}{W W':World}{b:Nat}{cs:Array Value}{T:TypeId}(h:Blk W b cs T)(ho:Outs fp W W')(hn:b∉fp):Blk W' b cs T:=blk_keep h (ho.block b (blk_lt h) hn)
theorem rowBlk_own{W:World}{B e s n:Nat}{v:Value}{xs:List Value}(h:W.ownsRow B e s v n xs){b:Nat}(hb:rowBlk v=some b):b∈v.ownBlock.toList:=by
 rcases h.2 with⟨rfl,_⟩|⟨q,cap,cur,rfl,_,hh,_⟩
 ·cases hb
 ·simp [rowBlk] at hb
  simp [Value.ownBlock,hb]
structure BSt (B:Nat) (W:World) (th:Nat) (its:List It) (rv:Value) (os:List GOw) (kv:Value) (ks:List Ld):Prop where
 tr:TrAt W B th rv os
 inv:TInv its os
 kin:KInv its os ks
 kept:W.ownsRow B 129 4 kv ks.length (ldVs ks)
 lab:LabAt W (fpT th rv os) os
 fpl:∀ b∈fpT th rv os,b=th∨B<=b
 lty:∀ o∈os,o.lab≠[]->∀ b,rowBlk o.lv=some b->TyAt W b [9]
theorem ty_keep{W W':World}{b:Nat}{ts:List TypeId}(h:TyAt W b ts)(he:W'.heap[b]? =W.heap[b]?):TyAt W' b ts:=by
 obtain⟨cs,T,r,h1,h2⟩:=h;exact⟨cs,T,r,he.trans h1,h2⟩
theorem BSt.nil{B th:Nat}{W:World}(h:Blk W th #[cmpLv,.slice none 0 0] 145):BSt B W th [] (.slice none 0 0) [] (.slice none 0 0) []:=
 ⟨⟨h,World.ownsRow_nil _ _ _ _,by simp,by simp [fpT,Value.ownBlock]⟩,TInv.nil,KInv.nil,World.ownsRow_nil _ _ _ _,by simp [LabAt],by simp [fpT,Value.ownBlock],by simp⟩
theorem BSt.outs{B th:Nat}{W W':World}{its:List It}{rv kv:Value}{os:List GOw}{ks:List Ld}{fp:List Nat}(h:BSt B W th its rv os kv ks)(ho:Outs fp W W')(h1:∀ b∈fp,b∉fpT th rv os)(h2:∀ b∈fp,b∉kv.ownBlock.toList)
 (h3:∀ o∈os,∀ b∈fp,rowBlk o.lv≠some b):BSt B W' th its rv os kv ks:=by
 refine⟨h.tr.keep (fun b hb=>ho.block b (h.tr.lt b hb) (fun hm=>h1 b hm hb)),h.inv,h.kin,own_outs h.kept ho h2,fun o hm=>?_,h.fpl,fun o hm hne b hb=>ty_keep (h.lty o hm hne b hb) (ho.block b ((h.lab o hm).far hne b hb).2 (fun hf=>h3 o hm b hf hb))⟩;have hl:=h.lab o hm;refine⟨srow_keep hl.row (fun hne b hb=>ho.block b (hl.far hne b hb).2 (fun hf=>h3 o hm b hf hb)),fun hne b hb=>⟨(hl.far hne b hb).1,Nat.lt_of_lt_of_le (hl.far hne b hb).2 ho.size⟩,hl.fit⟩
theorem BSt.below{B th:Nat}{W W':World}{its:List It}{rv kv:Value}{os:List GOw}{ks:List Ld}(h:BSt B W th its rv os kv ks)(hb:Below W.heap.size W W'):BSt B W' th its rv os kv ks:=
 h.outs (Outs.below (fp:=[]) hb) (by simp) (by simp) (by simp)
structure LaidR (B N:Nat) (W W':World) (th:Nat) (its:List It) (x:It) (rv rv':Value) (os os':List GOw) (kv:Value) (ks:List Ld) (ob sb:Nat) (isNew:Bool):Prop where
 tr:TrAt W' B th rv' os'
 inv:TInv (its++[x]) os'
 kin:KInv (its++[x]) os' (if isNew=true then ks++[⟨its.length,x.r.ty,ob,sb⟩] else ks)
 kept:W'.ownsRow B 129 4 kv ks.length (ldVs ks)
 lab:LabAt W' (fpT th rv' os') os'
 fpl:∀ b∈fpT th rv' os',b=th∨B<=b
 sbm:sb∈fpT th rv' os'
 lvb:∀ o∈os',o.lab≠[]->∀ b,rowBlk o.lv=some b->b<N
 lty:∀ o∈os',o.lab≠[]->∀ b,rowBlk o.lv=some b->TyAt W' b [9]
 tt:∃ tt:Int,W'.cell? ⟨sb,0,none⟩=some (.int .i64 tt)∧mixI its x=decide (tt≠x.r.tt)
theorem laid_r{B N th at_:Nat}{W W':World}{its:List It}{x:It}{lv:Value}{rv rv' kv:Value}{os os':List GOw}{ks:List Ld}{ob sb:Nat}{isNew:Bool}(h:BSt B W th its rv os kv ks)(hB:B<=W.heap.size)(hg:∀ y∈its,GoodI y)(hx:GoodI x)(hat:at_=its.length)
 (hL:LayG x.r.own lv (labI x) x.r.ty x.r.tt at_ x.dt x.r.da os os' ob sb isNew) (hT:TrAt W' B th rv' os') (ho:Outs (fpT th rv os) W W') (hf:∀ b∈fpT th rv' os',b∈fpT th rv os∨W.heap.size<=b)
 (hlv:LabOK W (fpT th rv os) lv (labI x)) (hN1:∀ o∈os,o.lab≠[]->∀ b,rowBlk o.lv=some b->b<N) (hN2:labI x≠[]->∀ b,rowBlk lv=some b->b<N) (hT2:labI x≠[]->∀ b,rowBlk lv=some b->TyAt W b [9]):LaidR B N W W' th its x rv rv' os os' kv ks ob sb isNew:=by
 subst hat;obtain⟨o',s',hP,eo,es⟩:=layP_of h.inv.sorted hL;have hR:=lay_r h.inv hP;refine⟨hT,hR.inv,by rw [<- eo,<- es];exact h.kin.step hg hx hR,own_outs h.kept ho (fun b hb=>own_out h.kept (h.tr.types b hb) (by decide)),fun q hq=>?_,fun b hb=>?_,?_,fun q hq=>?_,fun q hq=>?_,?_⟩
 ·rcases hR.lvs q hq with⟨o,hm,e1,e2⟩|⟨e1,e2⟩
  ·have:=(h.lab o hm).outs ho hf;rw [e1,e2];exact this
  ·have:=hlv.outs ho hf;rw [e1,e2];exact this
 ·rcases hf b hb with h1|h1
  ·exact h.fpl b h1
  ·exact .inr (by omega)
 ·rw [<- es];simp only [fpT,fpO,fpS,List.mem_cons,List.mem_append,List.mem_flatMap];exact .inr (.inr ⟨o',hR.isOwn.1,.inr (.inr (.inr ⟨s',hR.isSet.1,.inl rfl⟩))⟩)
 ·rcases hR.lvs q hq with⟨o,hm,e1,e2⟩|⟨e1,e2⟩
  ·rw [e1,e2];exact hN1 o hm
  ·rw [e1,e2];exact hN2
 ·rcases hR.lvs q hq with⟨o,hm,e1,e2⟩|⟨e1,e2⟩
  ·rw [e1,e2];intro hne b hb;exact ty_keep (h.lty o hm hne b hb) (ho.block b ((h.lab o hm).far hne b hb).2 ((h.lab o hm).far hne b hb).1)
  ·rw [e1,e2];intro hne b hb;exact ty_keep (hT2 hne b hb) (ho.block b (hlv.far hne b hb).2 (hlv.far hne b hb).1)
 ·have sw:=(hT.owners o' hR.isOwn.1).sets s' hR.isSet.1;refine⟨s'.tt,by rw [<- es];exact(blk_cell sw.node 0).trans rfl,?_⟩;obtain⟨y,hF,ht⟩:=hR.inv.set o' hR.isOwn.1 s' hR.isSet.1;have hox:Nm.cmpLs (labI x) o'.lab=0:=hR.isOwn.2
  have hkin:∀ z∈its,(kinB x z=true↔OfS o'.lab s'.ty z):=fun z hz=>by
   rw [kin_of hx (hg z hz),hR.isSet.2,OfS,OfS,OfO,OfO,cmpLs_eq_right hox]
  by_cases hfi:s'.fi<its.length
  ·have hy:its[s'.fi]? =some y:=by have:=hF.1;rwa [List.getElem?_append_left hfi] at this
   have hfind:=find_take_at (l:=its) (p:=kinB x) (k:=its.length) hfi hy ((hkin y (List.mem_of_getElem? hy)).2 hF.2.1) (fun j z hj hz=>by
    cases hb:kinB x z with
    |false=>rfl
    |true=>
     exfalso
     exact hF.2.2 j z hj (by rw [List.getElem?_append_left (by omega)];exact hz) ((hkin z (List.mem_of_getElem? hz)).1 hb))
   rw [List.take_length] at hfind;rw [mixI,hfind,ht]
  ·have hlt:=hF.lt;have e:s'.fi=its.length:=by rw [List.length_append,List.length_singleton] at hlt;omega
   have hy:y=x:=by
    have h1:=hF.1;rw [e,List.getElem?_append_right (Nat.le_refl _)] at h1;simp at h1;exact h1.symm
   have hno:its.find? (kinB x)=none:=by
    have:=find_take_no (l:=its) (p:=kinB x) (k:=its.length) (fun j z hj hz=>by
     cases hb:kinB x z with
     |false=>rfl
     |true=>
      exfalso
      exact hF.2.2 j z (by omega) (by rw [List.getElem?_append_left hj];exact hz) ((hkin z (List.mem_of_getElem? hz)).1 hb))
    rwa [List.take_length] at this
   rw [mixI,hno,ht,hy];simp
theorem good_item{r:Rr}(h:(Nm.split r.own).isSome=true):GoodI (itemOf r):=by
 obtain⟨xs,hx⟩:=Option.isSome_iff_exists.1 h;have e:labI (itemOf r)=xs:=by simp [labI,itemOf,hx]
 exact⟨by rw [e];exact hx,rfl,rfl,rfl⟩
theorem LbRow.outs{W W':World}{B:Nat}{v:Value}{lvs:List Value}{xss:List (List ByteArray)}{fp:List Nat}{ts:List TypeId}(h:LbRow W B v lvs xss)(ho:Outs fp W W')(ht:∀ b∈fp,TyAt W b ts)(h1:67∉ts)(h2:9∉ts):LbRow W' B v lvs xss:=
 ⟨own_outs h.outer ho (fun b hb=>own_out h.outer (ht b hb) h1),h.len,fun i u xs e1 e2=>own_outs (h.inner i u xs e1 e2) ho (fun b hb=>own_out (h.inner i u xs e1 e2) (ht b hb) h2)⟩
theorem lab_ok{W:World}{B:Nat}{v u:Value}{lvs:List Value}{list:List Rr}{k:Nat}{r:Rr}{fp:List Nat}(h:LbRow W B v lvs (labsOf list))(hu:lvs[k]? =some u)(hr:list[k]? =some r)(hs:(Nm.split r.own).isSome=true)(ht:∀ b∈fp,TyAt W b trTys):LabOK W fp u (labI (itemOf r)):=by
 have e:(labsOf list)[k]? =some (labI (itemOf r)):=by simp [labsOf,hr,labI,itemOf]
 have ho:=h.inner k u _ hu e;obtain⟨xs,hx⟩:=Option.isSome_iff_exists.1 hs;have e2:labI (itemOf r)=xs:=by simp [labI,itemOf,hx]
 refine⟨srow_own ho,fun _ b hb=>?_,?_⟩
 ·have hm:=rowBlk_own ho hb;exact⟨fun hf=>own_out ho (ht b hf) (by decide) hm,own_lt ho b hm⟩
 ·rw [e2];have:=lab_fit hx;exact⟨this.1,by omega⟩
theorem lab_ty{W:World}{B:Nat}{v u:Value}{lvs:List Value}{list:List Rr}{k:Nat}{r:Rr}(h:LbRow W B v lvs (labsOf list))(hu:lvs[k]? =some u)(hr:list[k]? =some r){b:Nat}(hb:rowBlk u=some b):TyAt W b [9]:=by
 have e:(labsOf list)[k]? =some (labI (itemOf r)):=by simp [labsOf,hr,labI,itemOf]
 have ho:=h.inner k u _ hu e;exact ty_own ho (by simp) b (rowBlk_own ho hb)
theorem outs_two{w W W':World}{B bb th:Nat}{fp:List Nat}(h:Outs [bb,th] w W)(h2:Outs fp W W')(hf:∀ b∈fp,b=th∨B<=b)(hB:w.heap.size<=B):Outs [bb,th] w W':=
 h.trans h2 (fun k hk=>by
  rcases hf k hk with h1|h1
  ·exact .inl (by simp [h1])
  ·exact .inr (by omega))
theorem layAt{B th bb k:Nat}{wr:World}{list:List Rr}{x:Rr}{rv kv labv:Value}{os:List GOw}{ks:List Ld}{lvs:List Value}{va:Option Addr}{vn vc B0:Nat}{cs:Array Value}(hS:BSt B wr th ((list.map itemOf).take k) rv os kv ks)(hlb:LbRow wr B0 labv lvs (labsOf list))(hB:B<=wr.heap.size)
 (hg:∀ r∈list,(Nm.split r.own).isSome=true) (hx:list[k]? =some x) (hu:lvs[k]? =some (.slice va vn vc)) (hl:list.length<=500) (kb:Blk wr bb cs 73) (hc:cs[4]? =some (ptr th)) (hown:x.own.size<=1000000000) (hda:x.da.size<=2000000):
 ∀ W,Below wr.heap.size wr W->Calls Tryz.prog 86 #[.pointer (some ⟨bb,3,none⟩),.int .i64 (k:Int),.agg #[.string x.own,.int .i64 x.ty,.int .i64 x.cl,.int .i64 x.tt,.string x.da],.slice va vn vc] W fun e w'=>∃ (ob sb:Nat) (isNew:Bool) (rv':Value) (os':List GOw),
   e=.returned (.tuple #[.agg #[.int .i64 (k:Int),.int .i64 x.ty,.pointer (some ⟨ob,0,none⟩),.pointer (some ⟨sb,0,none⟩)],.bool isNew])∧LaidR B wr.heap.size W w' th ((list.map itemOf).take k) (itemOf x) rv rv' os os' kv ks ob sb isNew∧Outs (fpT th rv os) W w'∧∀ b∈fpT th rv' os',b∈fpT th rv os∨W.heap.size<=b:=by
 intro W hW;have hkl:=(List.getElem?_eq_some_iff.1 hx).1;have hS':=hS.below hW
 have hgI:∀ y∈list.map itemOf,GoodI y:=fun y hy=>by
  obtain⟨r,hr,rfl⟩:=List.mem_map.1 hy;exact good_item (hg r hr)
 have hgx:=good_item (hg x (List.mem_of_getElem? hx));have hlen:((list.map itemOf).take k).length=k:=by rw [List.length_take,List.length_map];omega
 have hol:os.length<=400000:=by have:=hS.inv.len.1;omega
 have hlab:=lab_ok (hlb.below hW) hu hx (hg x (List.mem_of_getElem? hx)) hS'.tr.types;have kb':=blk_below kb hW;have hcc:W.cell? ⟨bb,3+1,none⟩=some (ptr th):=(blk_cell kb' 4).trans hc;have hbb:bb∉fpT th rv os:=fun hm=>blk_out kb' (hS'.tr.types bb hm) (by decide) rfl
 refine(lay_any bb 3 th rv os B k x va vn vc (labI (itemOf x)) W hS'.tr (Nat.le_trans hB hW.size) hol (hS.inv.trs (by omega)) hS'.lab hlab hcc hbb hown hda (by omega)).mono ?_;rintro e w' ⟨ob,sb,isNew,rv',os',rfl,hL,hT,hO,hf⟩;refine⟨ob,sb,isNew,rv',os',rfl,laid_r hS' (Nat.le_trans hB hW.size) (fun y hy=>hgI y (List.mem_of_mem_take hy)) hgx hlen.symm hL hT hO hf hlab (fun o ho hne b hb=>((hS.lab o ho).far hne b hb).2) (fun hne b hb=>((lab_ok hlb hu hx (hg x (List.mem_of_getElem? hx)) hS.tr.types).far hne b hb).2) (fun hne b hb=>lab_ty (hlb.below hW) hu hx hb),hO,hf⟩
theorem LaidR.more{B N th g:Nat}{W w' W2:World}{its:List It}{x:It}{rv rv' kv:Value}{os os':List GOw}{ks:List Ld}{ob sb:Nat}{isNew:Bool}(h:LaidR B N W w' th its x rv rv' os os' kv ks ob sb isNew)(ho:Outs [g] w' W2)(h1:g∉fpT th rv' os')(h2:g∉kv.ownBlock.toList)(h3:N<=g):LaidR B N W W2 th its x rv rv' os os' kv ks ob sb isNew:=by
 refine⟨h.tr.keep (fun b hb=>ho.block b (h.tr.lt b hb) (fun hm=>h1 (by rw [List.mem_singleton.1 hm] at hb;exact hb))),h.inv,h.kin,own_outs h.kept ho (fun b hb=>by rw [List.mem_singleton.1 hb];exact h2),fun o hm=>?_,h.fpl,h.sbm,h.lvb,fun o hm hne b hb=>ty_keep (h.lty o hm hne b hb) (ho.block b ((h.lab o hm).far hne b hb).2 (fun hf=>by have:=h.lvb o hm hne b hb;rw [List.mem_singleton.1 hf] at this;omega)),?_⟩
 ·have hl:=h.lab o hm;exact⟨srow_keep hl.row (fun hne b hb=>ho.block b (hl.far hne b hb).2 (fun hf=>by have:=h.lvb o hm hne b hb;rw [List.mem_singleton.1 hf] at this;omega)),fun hne b hb=>⟨(hl.far hne b hb).1,Nat.lt_of_lt_of_le (hl.far hne b hb).2 ho.size⟩,hl.fit⟩
 ·obtain⟨tt,hc,hm⟩:=h.tt;exact⟨tt,outs_cell ho hc (fun hf=>h1 (by rw [<- List.mem_singleton.1 hf];exact h.sbm)),hm⟩
theorem ldVs_snoc(l:List Ld)(x:Ld):ldVs (l++[x])=ldVs l++ldC x:=by simp [ldVs]
theorem LaidR.old{B N th:Nat}{W W' W2:World}{its:List It}{x:It}{rv rv' kv:Value}{os os':List GOw}{ks:List Ld}{ob sb:Nat}(h:LaidR B N W W' th its x rv rv' os os' kv ks ob sb false)(hb:Below W'.heap.size W' W2):BSt B W2 th (its++[x]) rv' os' kv ks:=
 (BSt.below ⟨h.tr,h.inv,by simpa using h.kin,h.kept,h.lab,h.fpl,h.lty⟩ hb)
theorem LaidR.new{B N th bb:Nat}{W W' Wa w9:World}{its:List It}{x:It}{rv rv' kv kv':Value}{os os':List GOw}{ks:List Ld}{ob sb:Nat}{cs:Array Value}(h:LaidR B N W W' th its x rv rv' os os' kv ks ob sb true)(hb:Below W'.heap.size W' Wa)
 (hg:Wa.grownBy w9 kv.ownBlock) (ho:w9.ownsRow B 129 4 kv' (ks.length+1) (ldVs ks++ldC ⟨its.length,x.r.ty,ob,sb⟩)) (kb:Blk w9 bb cs 73):BSt B (w9.setCell ⟨bb,5,none⟩ kv') th (its++[x]) rv' os' kv' (ks++[⟨its.length,x.r.ty,ob,sb⟩]):=by
 have ta:=h.tr.below hb;have ka:=own_below h.kept hb
 have hout:Outs (bb::kv.ownBlock.toList) Wa (w9.setCell ⟨bb,5,none⟩ kv'):=by
  refine⟨hg.os,hg.tape,hg.output,by simpa using hg.size,fun k hk hn=>?_⟩;simp only [List.mem_cons,not_or] at hn;rw [heap_setCell_other w9 ⟨bb,5,none⟩ k _ hn.1];exact hg.block k hk (fun e=>hn.2 (by rw [<- e];simp))
 have nty:∀ (b:Nat) (ts:List TypeId),TyAt Wa b ts->129∉ts->73∉ts->b∉bb::kv.ownBlock.toList:=by
  intro b ts ht n1 n2 hbm;have hk:=own_out ka ht n1
  rcases List.mem_cons.1 hbm with h1|h1
  ·have hlt:b<Wa.heap.size:=by
    obtain⟨c',T',r',e1,_⟩:=ht;exact(Array.getElem?_eq_some_iff.1 e1).1
   refine blk_out kb (b:=bb) (ts:=ts) ?_ n2 rfl;rw [<- h1];exact ty_keep ht (hg.block b hlt (fun e=>hk (by rw [<- e];simp)))
  ·exact hk h1
 refine⟨ta.keep (fun b hm=>hout.block b (ta.lt b hm) (nty b _ (ta.types b hm) (by decide) (by decide))),h.inv,by simpa using h.kin,?_,fun o hm=>?_,h.fpl,fun o hm hne b hb2=>?_⟩
 ·rw [ldVs_snoc];have:=own_far (i:=5) (y:=kv') ho (own_nb ho kb (by decide));simpa using this
 ·have hl:=h.lab o hm;refine⟨srow_keep (hl.row.below hb) (fun hne b hbb=>?_),fun hne b hbb=>⟨(hl.far hne b hbb).1,Nat.lt_of_lt_of_le (hl.far hne b hbb).2 (Nat.le_trans hb.size hout.size)⟩,hl.fit⟩;exact hout.block b (Nat.lt_of_lt_of_le (hl.far hne b hbb).2 hb.size) (nty b _ (ty_keep (h.lty o hm hne b hbb) (hb.block b (hl.far hne b hbb).2)) (by decide) (by decide))
 ·have hl:=h.lab o hm;have h9:=ty_keep (h.lty o hm hne b hb2) (hb.block b (hl.far hne b hb2).2);exact ty_keep h9 (hout.block b (Nat.lt_of_lt_of_le (hl.far hne b hb2).2 hb.size) (nty b _ h9 (by decide) (by decide)))
end Go.Proofs.YtmdinnjimioffaaGreat
