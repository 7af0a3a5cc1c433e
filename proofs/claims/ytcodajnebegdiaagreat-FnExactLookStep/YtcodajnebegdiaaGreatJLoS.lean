import Derived.Test.YtcodajnebegdiaaGreatJMakeOk
import Derived.Test.YtcodajnebegdiaaGreatJTbBI
import Derived.RangeFuncBox
import Derived.Test.YtcodajnebegdiaaGreatJLoC
import Derived.Test.YtcodajnebegdiaaGreatJMath
namespace Go.Proofs.YtcodajnebegdiaaGreat
open Go.RowKit Go.Shelf
set_option linter.unusedVariables false
attribute [local go_sem] Oper.semAt_some
def Sst(B Ob:Nat)(W:World)(ss:List Sz):Prop:=∃ v ps,Blk W Ob #[v] 26∧ps.map (·.1)=ss∧ZOwn W B v ps
theorem sst_own{β:Type}(B Ob:Nat)(f:β->List Sz):Own (fun s W=>Sst B Ob W (f s)):=by
 rintro s X Y row ⟨v,ps,h1,h3,h4⟩ hg hrow;refine⟨v,ps,blk_grown h1 hg (fun e=>blk_nonc h1 (hrow Ob e) rfl),h3,h4.beside hg (fun g e=>own_nonc h4.outer (hrow g e)) (fun g e p hp=>?_)⟩;obtain⟨i,hi⟩:=List.getElem?_of_mem hp;exact own_nonc (h4.inner i p hi) (hrow g e)
theorem blk_ownF{N b:Nat}{cs:Array Value}{T:TypeId}{β:Type}:OwnFrom N (fun(_:β) W=>Blk W b cs T):=fun _ X Y row hs hg hr=>blk_grown hs hg (fun e=>blk_nonc hs (hr b e).2 rfl)
theorem sst_more{B Ob:Nat}{W w1:World}{tmp:Obj}{v v' u:Value}{ps:List Zp}{s:Sz}(h1:Blk W Ob #[v] 26)(h4:ZOwn W B v ps)(hB:B<=Ob)(hBW:B<=W.heap.size)
 (hu:W.ownsRow B 9 1 u s.da.length (s.da.map Value.string)) (ha:∀ p∈ps,∀ g,p.2.ownBlock=some g->u.ownBlock≠some g)
 (ho:w1.ownsRow B 76 4 v' (ps.length+1) (zpVs ps++zpV (s,u))) (hg:(W.alloc tmp).grownBy w1 v.ownBlock):
 Blk w1 Ob #[v] 26∧Sst B Ob (w1.setCell ⟨Ob,0,none⟩ v') (ps.map (·.1)++[s])∧KeepsOthers W (w1.setCell ⟨Ob,0,none⟩ v')∧Below B W (w1.setCell ⟨Ob,0,none⟩ v')∧∀ b cs T,Blk W b cs T->76≠T->b≠Ob->Blk (w1.setCell ⟨Ob,0,none⟩ v') b cs T:=by
 have ha1:Below W.heap.size W (W.alloc tmp):=(Below.refl _ W).alloc (Nat.le_refl _) tmp;have h1':=blk_below h1 ha1;have h4':=h4.below ha1;have hu':=own_below hu ha1;have k1:Blk w1 Ob #[v] 26:=blk_grown h1' hg (fun e=>own_nb h4'.outer h1' (by decide) e);have z:=h4'.snoc hu' ha ho hg;have e1:=blk_set k1 0 v';simp only [List.setIfInBounds_toArray,List.set_cons_zero] at e1;have hgs:=grown_setC w1 Ob 0 v';refine⟨k1,⟨v',ps++[(s,u)],e1,by simp,?_⟩,?_,?_,fun b cs T hb hT hbz=>?_⟩
 ·refine z.beside hgs (fun g e=>by cases e;exact own_nb z.outer k1 (by decide)) (fun g e p hp=>?_);cases e
  obtain⟨i,hi⟩:=List.getElem?_of_mem hp;exact own_nb (z.inner i p hi) k1 (by decide)
 ·refine((KeepsOthers.alloc W tmp).trans (KeepsOthers.of_grownBy hg fun j o ej hj=>?_)).trans (KeepsOthers.of_grownBy hgs fun j o ej hj=>?_)
  ·cases ho:o.isCells with
   |true=>rfl
   |false=>exact absurd ej (own_nonc h4'.outer ⟨o,hj,ho⟩)
  ·cases ho:o.isCells with
   |true=>rfl
   |false=>cases ej;exact absurd rfl (blk_nonc k1 ⟨o,hj,ho⟩)
 ·refine((((Below.refl B W).alloc hBW tmp).grown hg (by simp;omega) fun j ej=>?_)).setCell (p:=⟨Ob,0,none⟩) hB v';exact(h4'.outer.lt j ej).1
 ·exact blk_grown (blk_grown (blk_below hb ha1) hg (fun e=>own_nb h4'.outer (blk_below hb ha1) hT e)) hgs (fun e=>by cases e;exact hbz rfl)
def isQ(q t:Int):Bool:=decide (q=t)||decide (q=255)
set_option maxRecDepth 100000 in
set_option maxHeartbeats 4000000 in
theorem setsFor_in(F:Fence)(n:Nat)(h1:F.fn 54)(h5:F.fn 103)(h6:F.fn 149)(h7:F.fn 104)(hro:F.round=none)(hn:9<=n)
 (c:GOw) (q:Int) (B:Nat) (w:World) (ow:OwAt w B c) (hl:c.ss.length<=400000)
 (hset:∀ (s:GSe) (m:Nat) (W:World),s∈c.ss->Below w.heap.size w W->CallsIn F m Tryz.prog 104 #[.pointer (some ⟨c.blk,0,none⟩),.int .i64 s.ty] W fun e w'=>∃ v,e=.returned (.tuple #[.agg #[.string c.nm,.int .i64 s.ty,.int .i64 s.tt,v],.bool true])∧w'.ownsRow W.heap.size 9 1 v s.da.length (s.da.map fun p=>.string p.2)∧Below W.heap.size W w'):
 CallsIn F n Tryz.prog 54 #[.pointer (some ⟨c.blk,0,none⟩),.int .i64 q] w fun e W'=>∃ v ps,e=.returned v∧ps.map (·.1)=setsT c q∧ZOwn W' w.heap.size v ps∧Below w.heap.size w W':=by
 obtain⟨i0,hi,hz0,hz1,hz2⟩:=info_parts Tryz.infoSet;refine callsIn_of_wp_marks Tryz.func54 rfl h1 ?_ hro;simp only [Tryz.ntmps54,List.size_toArray,List.length_cons,List.length_nil,Nat.reduceAdd,Nat.reduceSub,Array.replicate_succ,Array.replicate_zero,List.push_toArray,List.append_toArray,List.nil_append,List.cons_append];have b3:=(((Below.refl w.heap.size w).alloc (Nat.le_refl _) (.cells #[.pointer (some ⟨c.blk,0,none⟩)] 96)).alloc (by simp) (.cells #[.int .i64 q] 2)).alloc (by simp;omega) (.cells #[.slice none 0 0] 26);have kA:=blk_alloc (blk_alloc (blk_new w #[.pointer (some ⟨c.blk,0,none⟩)] 96) (.cells #[.int .i64 q] 2)) (.cells #[.slice none 0 0] 26);have kQ:=blk_alloc (blk_new (w.alloc (.cells #[.pointer (some ⟨c.blk,0,none⟩)] 96)) #[.int .i64 q] 2) (.cells #[.slice none 0 0] 26);have kO:=blk_new ((w.alloc (.cells #[.pointer (some ⟨c.blk,0,none⟩)] 96)).alloc (.cells #[.int .i64 q] 2)) #[.slice none 0 0] 26;rw [World.size_alloc] at kQ;rw [World.size_alloc,World.size_alloc] at kO;obtain⟨W3,hW3⟩:∃ W3,((w.alloc (.cells #[.pointer (some ⟨c.blk,0,none⟩)] 96)).alloc (.cells #[.int .i64 q] 2)).alloc (.cells #[.slice none 0 0] 26)=W3:=⟨_,rfl⟩;have s3:W3.heap.size=w.heap.size+3:=by rw [<- hW3];simp
 rw [hW3] at b3 kA kQ kO;have c3:W3.cell? ⟨c.blk,2,none⟩=some (.pointer (some ⟨c.hd,0,none⟩)):=(b3.cell (p:=⟨c.blk,2,none⟩) (blk_lt ow.node)).trans ((blk_cell ow.node 2).trans rfl);have c0:W3.cell? ⟨w.heap.size,0,none⟩=some (.pointer (some ⟨c.blk,0,none⟩)):=(blk_cell kA 0).trans rfl;have n1:1<=n:=by omega
 have HX:=Nm.hide (And.intro ow hset);clear hset
 gi_wp2_with (gi_at_call 103;refine(allI_in F (n-1) h5 hro _ _).mono ?_;rintro e w' ⟨rfl,rfl⟩)
 clear c3 c0;have b4:=b3.alloc b3.size (.cells #[.pointer (some ⟨c.hd,0,none⟩)] 149);have kA4:=blk_alloc kA (.cells #[.pointer (some ⟨c.hd,0,none⟩)] 149);have kQ4:=blk_alloc kQ (.cells #[.pointer (some ⟨c.hd,0,none⟩)] 149);have kO4:=blk_alloc kO (.cells #[.pointer (some ⟨c.hd,0,none⟩)] 149);have kT4:=blk_new W3 #[.pointer (some ⟨c.hd,0,none⟩)] 149;obtain⟨W0,hW0⟩:∃ W0,W3.alloc (.cells #[.pointer (some ⟨c.hd,0,none⟩)] 149)=W0:=⟨_,rfl⟩;have s0:W0.heap.size=w.heap.size+4:=by rw [<- hW0];simp;omega
 rw [s3] at kT4;rw [hW0] at b4 kA4 kQ4 kO4 kT4 ⊢;clear hW0 hW3 b3 kA kQ kO
 have hR1:RwsI (fun s:{s:GSe // s∈c.ss}=>s.1.ty) (fun s=>⟨s.1.blk,0,none⟩) w.heap.size w c.rv c.ss.attach:=by
  refine rwsI_own _ _ (B:=B) (e:=195) _ ?_;have hr:=ow.rows
  have e1:(c.ss.attach.map fun s:{s:GSe // s∈c.ss}=>((Value.int .i64 s.1.ty),(Value.pointer (some (⟨s.1.blk,0,none⟩:Addr)))))=seRs c.ss:=by
   rw [seRs]
   conv=>rhs;rw [<- List.attach_map_subtype_val c.ss]
   rw [List.map_map];rfl
  rw [e1];rw [show(seRs c.ss).length=c.ss.attach.length by simp [seRs]] at hr;exact hr
 have hzb:c.ss.attach.length=c.ss.length:=List.length_attach;have khI:W0.cell? ⟨c.hd,1,none⟩=some c.rv:=(b4.cell (p:=⟨c.hd,1,none⟩) (blk_lt ow.head)).trans ((blk_cell ow.head 1).trans rfl);have hhd:=blk_lt ow.head;clear ow
 refine wpIn_rangeFunc_ownG hro n1 (gf:=149) (lb:=#[.pointer (some ⟨w.heap.size+3,0,none⟩)]) rfl h6 (enters_of Tryz.func149 (by kernel_rfl) rfl)
  (allStopsI (fun s:{s:GSe // s∈c.ss}=>s.1.ty) (fun s=>⟨s.1.blk,0,none⟩) F (n-1) h6 hro (by omega) (w.heap.size+3) c.hd w.heap.size c.rv c.ss.attach (by omega) _ (by omega) hhd (by omega) ((blk_cell kT4 0).trans rfl) khI (hR1.below b4)) belowK_t (belowK_b (by omega)) (Below.refl _ _) (fun _=>rfl)
  (fun pre W=>((Sst w.heap.size (w.heap.size+2) W ((pre.filter fun s=>isQ q s.1.ty).map fun s=>szT (c,s.1))∧Blk W w.heap.size #[.pointer (some ⟨c.blk,0,none⟩)] 96)∧Blk W (w.heap.size+1) #[.int .i64 q] 2)∧Below w.heap.size w W)
  (fun _ _ _=>False)
  (OwnFrom.and (OwnFrom.and (OwnFrom.and (Own.from (sst_own _ _ (fun pre:List {s:GSe // s∈c.ss}=>(pre.filter fun s=>isQ q s.1.ty).map fun s=>szT (c,s.1))) _) blk_ownF) blk_ownF) (ownFrom_below (Nat.le_refl _) (by omega)))
  (fun _ _ _ _ _ hs _ _=>hs)
  ⟨⟨⟨⟨_,[],kO4,rfl,ZOwn.nil _ _⟩,kA4⟩,kQ4⟩,b4⟩
  (fun x=>{tmps:=#[.pointer (some ⟨c.blk,0,none⟩),.int .i64 q,.pointer (some ⟨w.heap.size,0,none⟩),.pointer (some ⟨w.heap.size+1,0,none⟩),.slice none 0 0,.pointer (some ⟨w.heap.size+2,0,none⟩),.int .i64 x.1.ty,undef,undef,.pointer (some ⟨c.blk,0,none⟩),.pointer (some ⟨c.blk,0,none⟩),.pointer (some ⟨c.blk,2,none⟩),.pointer (some ⟨c.hd,0,none⟩),.func (.func 149) #[] #[.pointer (some ⟨w.heap.size+3,0,none⟩)],.int .i64 x.1.ty,.pointer (some ⟨x.1.blk,0,none⟩),undef,undef,undef,undef,undef,undef,undef,undef,undef,undef,undef,undef,undef,undef,undef,undef,undef,undef],defers:=[]}) ?assign ?body ?done ?stop
 case assign=>
  intro l x W K hK
  gi_wp2
  exact hK
 case body=>
  rintro l pre x W ⟨⟨⟨hz2,kA⟩,kQ⟩,hB⟩ hlt;have cA:=(blk_cell kA 0).trans rfl;have cQ:=(blk_cell kQ 0).trans rfl;have hsW':=hB.size
  by_cases hq:isQ q x.1.ty=true
  ·obtain⟨v,ps,k1,e3,z4⟩:=hz2;obtain⟨va,vc,rfl⟩:=own_sl z4.outer;have hst:=HX.out.2 x.1 (n-1-1-1) W x.2 hB
   have hps:ps.length<=400000:=by
    have h1:=congrArg List.length e3;simp only [List.length_map] at h1;have h2:=List.length_filter_le (fun s:{s:GSe // s∈c.ss}=>isQ q s.1.ty) pre;omega
   have HQ:=Nm.hide (And.intro e3 (And.intro hB hlt));have HP:Hid (Blk W w.heap.size #[.pointer (some ⟨c.blk,0,none⟩)] 96∧Blk W (w.heap.size+1) #[.int .i64 q] 2):=⟨kA,kQ⟩;clear e3 hlt hR1 hzb khI;have n3:1<=n-1-1:=by omega
   have hq1:(q==x.1.ty)=true∨((q==x.1.ty)=false∧(q==255)=true):=by
    rw [isQ,Bool.or_eq_true,decide_eq_true_eq,decide_eq_true_eq] at hq
    by_cases e:q=x.1.ty
    ·exact .inl (by simpa using e)
    ·rcases hq with h|h
     ·exact absurd h e
     ·exact .inr ⟨by simpa using e,by simpa using h⟩
   rcases hq1 with hq1|⟨hq1,hq2⟩
   all_goals
    gi_wp2_with (first
     |(gi_at_call 104
       refine(CallsIn.inRound l hst).mono ?_;rintro e w4 ⟨u,rfl,hu,b4⟩;obtain⟨ua,uc,rfl⟩:=own_sl hu;have b5:=b4.alloc b4.size (.cells #[.string c.nm,.int .i64 x.1.ty,.int .i64 x.1.tt,.slice ua x.1.da.length uc] 76);have b6:Below W.heap.size W ((w4.alloc (.cells #[.string c.nm,.int .i64 x.1.ty,.int .i64 x.1.tt,.slice ua x.1.da.length uc] 76)).alloc (.cells #[.string c.nm,.int .i64 x.1.ty,.int .i64 x.1.tt,.slice ua x.1.da.length uc] 76)):=b5.alloc b5.size _;have c5:=(blk_cell (blk_below k1 b5) 0).trans rfl;have z6:=(z4.below b6).outer
       have hu5:(w4.alloc (.cells #[.string c.nm,.int .i64 x.1.ty,.int .i64 x.1.tt,.slice ua x.1.da.length uc] 76)).ownsRow w.heap.size 9 1 (.slice ua x.1.da.length uc) (szT (c,x.1)).da.length ((szT (c,x.1)).da.map Value.string):=by
        have h9:=own_base (own_below hu ((Below.refl _ w4).alloc (Nat.le_refl _) (.cells #[.string c.nm,.int .i64 x.1.ty,.int .i64 x.1.tt,.slice ua x.1.da.length uc] 76))) hsW';simpa [szT,List.map_map,Function.comp_def] using h9
       have hap:∀ p∈ps,∀ g,p.2.ownBlock=some g->(Value.slice ua x.1.da.length uc).ownBlock≠some g:=fun p hp g e e'=>by
        obtain⟨i,hi⟩:=List.getElem?_of_mem hp;have h8:=((z4.inner i p hi).lt g e).2;have h9:=(hu.lt g e').1;omega
       have HU:=Nm.hide (And.intro hu5 hap)
       clear hu5 hap hu b4)
     |(gi_at_builtin
       refine wpListIn_append_own _ rfl _ _ 26 rfl w.heap.size 76 i0 (.agg #[.string ByteArray.empty,.int .i64 0,.int .i64 0,.slice none 0 0]) 4 56 Tryz.underlying26 hi hz0 hz1 hz2 rfl (by decide) _ _ _ rfl z6 ⟨w4.heap.size+1,0,none⟩ 1 1 [.string c.nm,.int .i64 x.1.ty,.int .i64 x.1.tt,.slice ua x.1.da.length uc] rfl rfl (by have h9:=cell_newV (w4.alloc (.cells #[.string c.nm,.int .i64 x.1.ty,.int .i64 x.1.tt,.slice ua x.1.da.length uc] 76)) #[.string c.nm,.int .i64 x.1.ty,.int .i64 x.1.tt,.slice ua x.1.da.length uc] 76;rw [World.size_alloc] at h9;exact h9) (by intro u hu;simp at hu;rcases hu with rfl|rfl|rfl|rfl<;>rfl) (by unfold maxLen;omega) (by omega) (by have:=b6.size;omega) ?_;intro v' w7 hown' hgrow _;obtain⟨g',cap',rfl⟩:=ownsRow_succ hown';have zm:=sst_more (s:=szT (c,x.1)) (blk_below k1 b5) (z4.below b5) (by omega) (by have:=b5.size;omega) HU.out.1 HU.out.2 hown' hgrow;obtain⟨q1,q2,q3,q4,q5⟩:=zm;have c7:=fun i=>blk_cell q1 i
       have f7:=fun i=>blk_frozen q1 i))
    obtain⟨e3,hBW,-⟩:=HQ.out;have hKb:=(keeps_below b5).trans q3;have hBb:=(b5.mono hsW').trans q4;refine⟨hKb.from _,hBb,⟨⟨?_,q5 _ _ _ (blk_below HP.out.1 b5) (by decide) (by omega)⟩,q5 _ _ _ (blk_below HP.out.2 b5) (by decide) (by omega)⟩,hBW.trans hBb⟩;rw [e3] at q2;rw [List.filter_append,List.map_append,List.filter_cons,if_pos hq];exact q2
  ·have hq':(q==x.1.ty)=false∧(q==255)=false:=by
    rw [isQ,Bool.or_eq_true,decide_eq_true_eq,decide_eq_true_eq] at hq;exact⟨by simp;exact fun h=>hq (.inl h),by simp;exact fun h=>hq (.inr h)⟩
   obtain⟨hq1,hq2⟩:=hq'
   gi_wp2
   refine⟨KeepsFrom.refl _ _,Below.refl _ _,⟨⟨?_,kA⟩,kQ⟩,hB⟩;rw [List.filter_append,List.map_append,List.filter_cons,if_neg hq];simpa using hz2
 case done=>
  rintro D zs W hD rfl ⟨⟨⟨hz2,kA⟩,kQ⟩,hB⟩ hK;obtain⟨v,ps,k1,e3,z4⟩:=hz2;obtain⟨va,vc,rfl⟩:=own_sl z4.outer;have c1:=(blk_cell k1 0).trans rfl
  gi_wp2
  refine⟨by simp,.inl ⟨_,_,rfl,run_takeDeferred hK,?_⟩⟩;refine⟨_,results_tmp rfl _ _ _,.slice va ps.length vc,ps,rfl,?_,?_,hB.trans (belowK_b (w:=w) (Nat.le_refl _) W D _ _ (by omega) hK rfl rfl)⟩
  ·rw [e3,setsT]
   conv=>rhs;rw [<- List.attach_map_subtype_val c.ss]
   rw [List.filter_map,List.map_map];rfl
  ·exact z4.beside (grownBy_putObj' W D _) (fun g e=>by cases e;exact own_nonc z4.outer ⟨_,hK,rfl⟩) (fun g e p hp=>by
    cases e
    obtain⟨i,hi⟩:=List.getElem?_of_mem hp
    exact own_nonc (z4.inner i p hi) ⟨_,hK,rfl⟩)
 case stop=>
  rintro D c pre W _ _ h _;exact h.elim
theorem setsFor_any(c:GOw)(q:Int)(B:Nat)(w:World)(ow:OwAt w B c)(hl:c.ss.length<=400000)(hd:SeS c.ss)(hsl:∀ s∈c.ss,s.da.length<=1000000):
 Calls Tryz.prog 54 #[.pointer (some ⟨c.blk,0,none⟩),.int .i64 q] w fun e W'=>∃ v ps,e=.returned v∧ps.map (·.1)=setsT c q∧ZOwn W' w.heap.size v ps∧Below w.heap.size w W':=
 (callsIn_wide (n:=9)).1 (setsFor_in Fence.wide 9 trivial trivial trivial trivial rfl (by omega) c q B w ow hl
  (fun s m W hs hW=>callsIn_wide.2 (ownerSet_any c s B W (ow.below hW) (by omega) hd hs (hsl s hs))))
end Go.Proofs.YtcodajnebegdiaaGreat
namespace Go.Proofs.YtcodajnebegdiaaGreat
open Go.RowKit
set_option linter.unusedVariables false
def SoP(s:Stp)(w:World)(e:Ending)(w':World):Prop:=∃ v ps,e=.returned (.agg #[.int .i64 s.kd,v,.bool s.wild,.string s.tgt])∧List.map (·.1) ps=s.ss∧ZOwn w' w.heap.size v ps∧Below w.heap.size w w'
abbrev stL4(k:Int)(v:Value)(b:Bool)(t:ByteArray):List Value:=[.int .i64 k,v,.bool b,.string t]
theorem below_set4{B g:Nat}{w:World}(hg:B<=g):∀ (vs:List Value) (i:Nat) (W:World),Below B w W->Below B w (setAll W g i vs)
 |[],_,_,h=>h
 |y::vs,i,W,h=>below_set4 hg vs (i+1) _ (h.setCell hg _)
theorem ZOwn.set4{B g:Nat}{v:Value}{ps:List Zp}(hg:g<B):∀ (vs:List Value) (i:Nat) (W:World),ZOwn W B v ps->ZOwn (setAll W g i vs) B v ps
 |[],_,_,h=>h
 |y::vs,i,W,h=>ZOwn.set4 hg vs (i+1) _ (h.far hg)
theorem step_store{w W:World}{k:Int}{v:Value}{b:Bool}{t:ByteArray}{ps:List Zp}{B g:Nat}{old:Array Value}(hk:Blk W g old 28)(hs:old.size=4)(z:ZOwn W B v ps)(hgB:g<B)(hwg:w.heap.size<=g)(hb:Below w.heap.size w W):
 Blk (setAll W g 0 (stL4 k v b t)) g (stL4 k v b t).toArray 28∧ZOwn (setAll W g 0 (stL4 k v b t)) w.heap.size v ps∧Below w.heap.size w (setAll W g 0 (stL4 k v b t)):=
 ⟨setAll_new _ hk (by rw [hs];rfl),(ZOwn.set4 hgB _ 0 _ z).base (by omega),below_set4 hwg _ 0 _ hb⟩
abbrev st0A:Array Value:=#[.int .i64 0,.slice none 0 0,.bool false,.string ⟨#[]⟩]
set_option maxRecDepth 100000 in
set_option maxHeartbeats 3200000 in
theorem lookAt_any(bb oo th:Nat)(rv:Value)(os:List GOw)(B:Nat)(na:Option Addr)(nl nc:Nat)(lab:List ByteArray)(q:Int)(w:World)(h:TrAt w B th rv os)(hl:os.length<=500000)(hd:TrS os)(hLab:LabAt w (fpT th rv os) os)(hn:Nm.SRow w (.slice na nl nc) lab)(hnl:lab.length<=1000)(hc:w.cell? ⟨bb,oo+1,none⟩=some (ptr th))(hbb:bb<w.heap.size)(hne:∀ c∈os,∀ s∈c.ss,0<s.da.length∧(hdB (szT (c,s)).da).size<=1000000000):
 Calls Tryz.prog 56 #[.pointer (some ⟨bb,oo,none⟩),.slice na nl nc,.int .i64 q] w (SoP (atT os lab q) w):=by
 have b0:=(Below.refl w.heap.size w).alloc (Nat.le_refl _) (.cells st0A 28);have k0:=blk_new w st0A 28;have z0:(w.alloc (.cells st0A 28)).heap.size=w.heap.size+1:=by simp
 have HTr:Hid (∀ W,Below w.heap.size w W->TrAt W B th rv os∧LabAt W (fpT th rv os) os):=fun W hW=>⟨h.below hW,fun o ho=>(hLab o ho).outs (Outs.below hW) (fun b hb=>.inl hb)⟩
 have c0:(w.alloc (.cells st0A 28)).cell? ⟨bb,oo+1,none⟩=some (.pointer (some ⟨th,0,none⟩)):=(b0.cell (p:=⟨bb,oo+1,none⟩) hbb).trans hc;have hg:=getOwner_any th rv os B (.slice na nl nc) lab _ (HTr.out _ b0).1 hl hd.1 (HTr.out _ b0).2 (hn.below b0) (by omega);unfold ptr at hg;obtain⟨W0,hW0⟩:∃ W0,w.alloc (.cells st0A 28)=W0:=⟨_,rfl⟩;rw [hW0] at b0 k0 z0 c0 hg;obtain⟨R,HR⟩:∃ R,Hid (R=atT os lab q):=⟨_,rfl⟩;rw [<- HR.out];clear h hLab hn hc
 rcases isIn_own hd.1 lab with⟨hi,c,hcm,hp,h0⟩|⟨hi,hno⟩
 ·have HA:Hid (R=atG c q):=by show _=_;rw [HR.out,atT,if_pos hi,hp]
  have hg1:Calls Tryz.prog 101 #[.pointer (some ⟨th,0,none⟩),.slice na nl nc] W0 fun e w'=>e=.returned (.tuple #[.pointer (some ⟨c.blk,0,none⟩),.bool true])∧Below W0.heap.size W0 w':=by
   refine hg.mono ?_;rintro e w' ⟨hb,⟨-,o,ho,-,he⟩|⟨hi',-⟩⟩
   ·rw [hp] at ho;cases ho
    exact⟨he,hb⟩
   ·rw [hi] at hi';cases hi'
  have hcd:=hd.2 c hcm;have hsf:=fun W (hW:Below w.heap.size w W)=>setsFor_any c q B W ((HTr.out W hW).1.owners c hcm) (by have:=hcd.2.1;omega) hcd.1 (fun s hs=>by have:=(hcd.2.2 s hs).2;omega)
  clear hg HR hp hi h0
  by_cases hq:0<(setsT c q).length
  ·have hE:R=⟨3,setsT c q,false,⟨#[]⟩⟩:=by rw [HA.out,atG,if_pos hq]
   subst hE;clear HA;go_enter Tryz.func56,Tryz.ntmps56;go_wp2_with fail
   refine hg1.mono ?_;rintro e w1 ⟨rfl,b1⟩;have bw1:=Nm.below_two b0 b1;have k1:=blk_below k0 b1;clear hg1 k0 c0;go_wp2_with fail
   refine(hsf _ bw1).mono ?_;rintro e w2 ⟨v2,ps2,rfl,e2,z2,b2⟩;obtain⟨va,vc,rfl⟩:=own_sl z2.outer;have bw2:=Nm.below_two bw1 b2;have k2:=blk_below k1 b2;have hlen:ps2.length=(setsT c q).length:=by rw [<- e2,List.length_map]
   have i1:(0:Int)<(ps2.length:Int):=by omega
   have hg2:w.heap.size<w1.heap.size:=blk_lt k1;obtain⟨kX,hX1,hX2⟩:=step_store (k:=3) (b:=false) (t:=⟨#[]⟩) k2 rfl z2 hg2 (Nat.le_refl _) bw2;have HX:=Nm.hide (And.intro e2 (And.intro hX1 hX2));have rk:=fun i=>blk_cell k2 i
   have fk:=fun i=>blk_frozen k2 i
   clear hsf e2 z2 hX1 hX2 k1 b1 b2 hlen hq;simp only [setAll,Nat.reduceAdd,Nat.zero_add] at kX HX;have rX:=fun i=>blk_cell kX i
   clear kX;go_wp2_with fail
   refine bodyPost_ret (v:=.agg #[.int .i64 3,(.slice va ps2.length vc),.bool false,.string ⟨#[]⟩]) ?_ rfl ⟨_,_,rfl,HX.out.1,HX.out.2.1,HX.out.2.2⟩;simp [results,Tryz.f56,go_sem,rX]
  ·have hq0:(setsT c q).length=0:=by omega
   cases hf:c.ss.find? (fun s=>decide (s.ty=5)) with
   |some s=>
    have hs:=List.mem_of_find?_eq_some hf;have hs5:s.ty=5:=by have:=List.find?_some hf;simpa using this
    have hE:R=⟨4,[szT (c,s)],false,hdB (szT (c,s)).da⟩:=by rw [HA.out,atG,if_neg hq,hf]
    subst hE;have hos:=fun W (hW:Below w.heap.size w W)=>ownerSet_any c s B W ((HTr.out W hW).1.owners c hcm) (by have:=hcd.2.1;omega) hcd.1 hs (by have:=(hcd.2.2 s hs).2;omega)
    obtain⟨hd0,hdn⟩:=hne c hcm s hs;have hcl:=fun W=>clone_any (hdB (szT (c,s)).da) W hdn
    rw [hs5] at hos;unfold ptr at hos;clear HA hf hq
    obtain⟨⟨f0,d0⟩,rest,hda⟩:∃ x r,s.da=x::r:=by
     cases hx:s.da with
     |nil=>rw [hx] at hd0;simp at hd0
     |cons x r=>exact⟨x,r,rfl⟩
    have hD:hdB (szT (c,s)).da=d0:=by simp [hdB,szT,hda]
    have hZ:szT (c,s)=⟨c.nm,5,s.tt,d0::rest.map (·.2)⟩:=by rw [szT,hs5,hda];rfl
    rw [hD] at hdn hcl ⊢;rw [hda] at hos;go_enter Tryz.func56,Tryz.ntmps56;go_wp2_with fail
    refine hg1.mono ?_;rintro e w1 ⟨rfl,b1⟩;have bw1:=Nm.below_two b0 b1;have k1:=blk_below k0 b1;clear hg1 k0 c0;go_wp2_with fail
    refine(hsf _ bw1).mono ?_;rintro e w2 ⟨v2,ps2,rfl,e2,z2,b2⟩;obtain⟨va,vc,rfl⟩:=own_sl z2.outer;have bw2:=Nm.below_two bw1 b2;have k2:=blk_below k1 b2;have hlen:ps2.length=0:=by rw [<- hq0,<- e2,List.length_map]
    have i1:¬(0:Int)<(ps2.length:Int):=by omega
    have hos2:=hos _ bw2;clear hos hsf e2 z2 k1 b1 b2 hq0;go_wp2_with fail
    refine hos2.mono ?_;rintro e w3 ⟨v3,rfl,o3,b3⟩;simp only [List.length_cons,List.map_cons] at o3;obtain⟨g3,cap3,rfl⟩:=ownsRow_succ o3
    have cD:w3.cell? ⟨g3,0,none⟩=some (.string d0):=by
     rw [o3.cellAt 0 (by omega)];rfl
    have bw3:=Nm.below_two bw2 b3;have cA:=(Below.refl w3.heap.size w3).alloc (Nat.le_refl _) (.cells #[.string c.nm,.int .i64 5,.int .i64 s.tt,.slice (some ⟨g3,0,none⟩) (rest.length+1) cap3] 76);have kS:=blk_new w3 #[.string c.nm,.int .i64 5,.int .i64 s.tt,.slice (some ⟨g3,0,none⟩) (rest.length+1) cap3] 76;have k3:=blk_below (blk_below k2 b3) cA;have bw4:=Nm.below_two bw3 cA;have cD4:(w3.alloc (.cells #[.string c.nm,.int .i64 5,.int .i64 s.tt,.slice (some ⟨g3,0,none⟩) (rest.length+1) cap3] 76)).cell? ⟨g3,0,none⟩=some (.string d0):=(cA.cell (p:=⟨g3,0,none⟩) (World.block_lt_of_cell? w3 _ cD)).trans cD;have o4:=own_base (own_below o3 cA) (show w.heap.size+1<=w2.heap.size from blk_lt k2);have hS:Hid (∀ X,Below (w3.alloc (.cells #[.string c.nm,.int .i64 5,.int .i64 s.tt,.slice (some ⟨g3,0,none⟩) (rest.length+1) cap3] 76)).heap.size (w3.alloc (.cells #[.string c.nm,.int .i64 5,.int .i64 s.tt,.slice (some ⟨g3,0,none⟩) (rest.length+1) cap3] 76)) X->Blk X w3.heap.size #[.string c.nm,.int .i64 5,.int .i64 s.tt,.slice (some ⟨g3,0,none⟩) (rest.length+1) cap3] 76∧X.cell? ⟨g3,0,none⟩=some (.string d0)):=fun X hX=>⟨blk_below kS hX,(hX.cell (p:=⟨g3,0,none⟩) (World.block_lt_of_cell? _ _ cD4)).trans cD4⟩
    have s4:w.heap.size<(w3.alloc (.cells #[.string c.nm,.int .i64 5,.int .i64 s.tt,.slice (some ⟨g3,0,none⟩) (rest.length+1) cap3] 76)).heap.size:=blk_lt k3;obtain⟨W4,hW4⟩:∃ W4,w3.alloc (.cells #[.string c.nm,.int .i64 5,.int .i64 s.tt,.slice (some ⟨g3,0,none⟩) (rest.length+1) cap3] 76)=W4:=⟨_,rfl⟩;rw [hW4] at k3 bw4 hS s4 o4;have bd:=(Below.refl W4.heap.size W4).drew;have j1:(0:Int)<((rest.length+1:Nat):Int):=by omega
    clear cA kS cD cD4 b3 bw3 o3 k2 bw2 hlen hos2;go_upto_region 9 with fail
    try rw [hW4]
    refine wp_region_last (fun X=>Blk X w3.heap.size #[.string c.nm,.int .i64 5,.int .i64 s.tt,.slice (some ⟨g3,0,none⟩) (rest.length+1) cap3] 76∧X.cell? ⟨g3,0,none⟩=some (.string d0)) 8 (by kernel_rfl) (hS.out _ bd) (fun hHeld=>?_);refine tkL (i:=0) (v:=?_) rfl ?_ ?_;rotate_left 1
    ·(rintro W ⟨s1,s2⟩;have ss1:=(fun i=>blk_cell s1 i);go_simp;try (with_reducible rfl))
    refine tkL (i:=2) (v:=?_) rfl ?_ ?_;rotate_left 1
    ·(rintro W ⟨s1,s2⟩;have ss1:=(fun i=>blk_cell s1 i);go_simp;try (with_reducible rfl))
    refine tkL (i:=3) (v:=?_) rfl ?_ ?_;rotate_left 1
    ·(rintro W ⟨s1,s2⟩;have ss1:=(fun i=>blk_cell s1 i);go_simp;try (with_reducible rfl))
    refine tkL (i:=4) (v:=?_) rfl ?_ ?_;rotate_left 1
    ·(rintro W ⟨s1,s2⟩;have ss1:=(fun i=>blk_cell s1 i);go_simp;try (with_reducible rfl))
    refine tkL (i:=5) (v:=?_) rfl ?_ ?_;rotate_left 1
    ·(rintro W ⟨s1,s2⟩;have ss1:=(fun i=>blk_cell s1 i);go_simp;try (with_reducible rfl))
    refine wpAnyL_two (i:=1) (j:=6) (by kernel_rfl) rfl rfl (fun K hK=>?_) (fun K hK=>?_)
    ·go_simp;have ca:=(Below.refl W4.drew.heap.size W4.drew).alloc (Nat.le_refl _) (.cells #[.string c.nm,.int .i64 5,.int .i64 s.tt,.slice (some ⟨g3,0,none⟩) (rest.length+1) cap3] 76);have bA:=Nm.below_two bd ca;have z1:ZOwn (W4.drew.alloc (.cells #[.string c.nm,.int .i64 5,.int .i64 s.tt,.slice (some ⟨g3,0,none⟩) (rest.length+1) cap3] 76)) (w.heap.size+1) (.slice (some ⟨W4.heap.size,0,none⟩) 1 1) [((⟨c.nm,5,s.tt,d0::rest.map (·.2)⟩:Sz),Value.slice (some ⟨g3,0,none⟩) (rest.length+1) cap3)]:=zown_one (W:=W4.drew) (s:=⟨c.nm,5,s.tt,d0::rest.map (·.2)⟩) (by have:=own_below o4 bd;simpa [List.map_map,Function.comp_def] using this) (by have:=bd.size;omega);refine hK.out _ _ (hS.out _ bA) (fun hHeld=>?_);clear hK K;refine wpAnyL_one (i:=6) (by kernel_rfl) rfl (fun K hK=>?_);go_simp;refine(hcl _).mono ?_;rintro e w6 ⟨rfl,b6⟩;have bB:=Nm.below_two bA b6;have z2:=z1.below b6;go_wp2_with fail
     refine hK.out _ _ (hS.out _ bB) (fun hHeld=>?_);clear hK K;refine tkL (i:=7) (v:=?_) rfl ?_ ?_;rotate_left 1
     ·(rintro W ⟨s1,s2⟩;have ss1:=(fun i=>blk_cell s1 i);go_simp;try (with_reducible rfl))
     have k6:=blk_below k3 bB;have bw6:=Nm.below_two bw4 bB;have hz6:List.map (·.1) [((⟨c.nm,5,s.tt,d0::rest.map (·.2)⟩:Sz),Value.slice (some ⟨g3,0,none⟩) (rest.length+1) cap3)]=[szT (c,s)]:=by rw [hZ];rfl
     obtain⟨kX,hX1,hX2⟩:=step_store (k:=4) (b:=false) (t:=d0) k6 rfl z2 (Nat.lt_succ_self _) (Nat.le_refl _) bw6;have HX:=Nm.hide (And.intro hz6 (And.intro hX1 hX2));have rk:=fun i=>blk_cell k6 i
     have fk:=fun i=>blk_frozen k6 i
     clear hX1 hX2 hz6;simp only [setAll,Nat.reduceAdd,Nat.zero_add] at kX HX;have rX:=fun i=>blk_cell kX i
     clear kX;refine wpAnyL_end (by kernel_rfl) rfl (by kernel_rfl) (fun K hK=>?_);go_simp;refine hK.out _ _ ?_;clear hK K;go_wp2_with fail
     refine bodyPost_ret (v:=.agg #[.int .i64 4,.slice (some ⟨W4.heap.size,0,none⟩) 1 1,.bool false,.string d0]) ?_ rfl ⟨_,_,rfl,HX.out.1,HX.out.2.1,HX.out.2.2⟩;simp [results,Tryz.f56,go_sem,rX]
    ·go_simp;refine(hcl _).mono ?_;rintro e w6 ⟨rfl,b6⟩;have bA:=Nm.below_two bd b6;go_wp2_with fail
     refine hK.out _ _ (hS.out _ bA) (fun hHeld=>?_);clear hK K;refine wpAnyL_one (i:=1) (by kernel_rfl) rfl (fun K hK=>?_);go_simp;have ca:=(Below.refl w6.heap.size w6).alloc (Nat.le_refl _) (.cells #[.string c.nm,.int .i64 5,.int .i64 s.tt,.slice (some ⟨g3,0,none⟩) (rest.length+1) cap3] 76);have bB:=Nm.below_two bA ca;have z2:ZOwn (w6.alloc (.cells #[.string c.nm,.int .i64 5,.int .i64 s.tt,.slice (some ⟨g3,0,none⟩) (rest.length+1) cap3] 76)) (w.heap.size+1) (.slice (some ⟨w6.heap.size,0,none⟩) 1 1) [((⟨c.nm,5,s.tt,d0::rest.map (·.2)⟩:Sz),Value.slice (some ⟨g3,0,none⟩) (rest.length+1) cap3)]:=zown_one (W:=w6) (s:=(⟨c.nm,5,s.tt,d0::rest.map (·.2)⟩:Sz)) (by have:=own_below o4 bA;simpa [List.map_map,Function.comp_def] using this) (by have:=bA.size;omega);refine hK.out _ _ (hS.out _ bB) (fun hHeld=>?_);clear hK K;refine tkL (i:=7) (v:=?_) rfl ?_ ?_;rotate_left 1
     ·(rintro W ⟨s1,s2⟩;have ss1:=(fun i=>blk_cell s1 i);go_simp;try (with_reducible rfl))
     have k6:=blk_below k3 bB;have bw6:=Nm.below_two bw4 bB;have hz6:List.map (·.1) [((⟨c.nm,5,s.tt,d0::rest.map (·.2)⟩:Sz),Value.slice (some ⟨g3,0,none⟩) (rest.length+1) cap3)]=[szT (c,s)]:=by rw [hZ];rfl
     obtain⟨kX,hX1,hX2⟩:=step_store (k:=4) (b:=false) (t:=d0) k6 rfl z2 (Nat.lt_succ_self _) (Nat.le_refl _) bw6;have HX:=Nm.hide (And.intro hz6 (And.intro hX1 hX2));have rk:=fun i=>blk_cell k6 i
     have fk:=fun i=>blk_frozen k6 i
     clear hX1 hX2 hz6;simp only [setAll,Nat.reduceAdd,Nat.zero_add] at kX HX;have rX:=fun i=>blk_cell kX i
     clear kX;refine wpAnyL_end (by kernel_rfl) rfl (by kernel_rfl) (fun K hK=>?_);go_simp;refine hK.out _ _ ?_;clear hK K;go_wp2_with fail
     refine bodyPost_ret (v:=.agg #[.int .i64 4,.slice (some ⟨w6.heap.size,0,none⟩) 1 1,.bool false,.string d0]) ?_ rfl ⟨_,_,rfl,HX.out.1,HX.out.2.1,HX.out.2.2⟩
     simp [results,Tryz.f56,go_sem,rX]
   |none=>
    have hno5:isIn (sCmp 5) c.ss=false:=by
     cases hi5:isIn (sCmp 5) c.ss with
     |false=>rfl
     |true=>
      obtain⟨x,hx,hx0⟩:=isIn_some hi5;have:=List.find?_eq_none.1 hf x (List.mem_of_getElem? hx);simp only [decide_eq_true_eq] at this;rw [sCmp,Nm.cmpI] at hx0
      split at hx0
      ·omega
      ·split at hx0<;>omega
    have hE:R=stp 5:=by rw [HA.out,atG,if_neg hq,hf]
    subst hE;have hos:=fun W (hW:Below w.heap.size w W)=>ownerSet_no c 5 B W ((HTr.out W hW).1.owners c hcm) (by have:=hcd.2.1;omega) hcd.1 hno5
    unfold ptr at hos;clear HA hf hq;go_enter Tryz.func56,Tryz.ntmps56;go_wp2_with fail
    refine hg1.mono ?_;rintro e w1 ⟨rfl,b1⟩;have bw1:=Nm.below_two b0 b1;have k1:=blk_below k0 b1;clear hg1 k0 c0;go_wp2_with fail
    refine(hsf _ bw1).mono ?_;rintro e w2 ⟨v2,ps2,rfl,e2,z2,b2⟩;obtain⟨va,vc,rfl⟩:=own_sl z2.outer;have bw2:=Nm.below_two bw1 b2;have k2:=blk_below k1 b2;have hlen:ps2.length=0:=by rw [<- hq0,<- e2,List.length_map]
    have i1:¬(0:Int)<(ps2.length:Int):=by omega
    have hos2:=hos _ bw2;clear hos hsf e2 z2 k1 b1 b2 hq0;go_wp2_with fail
    refine hos2.mono ?_;rintro e w3 ⟨v3,rfl,o3,b3⟩;obtain⟨ua,uc,rfl⟩:=own_sl o3;have bw3:=Nm.below_two bw2 b3;have cA:=(Below.refl w3.heap.size w3).alloc (Nat.le_refl _) (.cells #[.string ⟨#[]⟩,.int .i64 0,.int .i64 0,.slice ua 0 uc] 76);have k3:=blk_below (blk_below k2 b3) cA;have bw4:=Nm.below_two bw3 cA;have hg2:w.heap.size<(w3.alloc (.cells #[.string ⟨#[]⟩,.int .i64 0,.int .i64 0,.slice ua 0 uc] 76)).heap.size:=blk_lt k3;obtain⟨kX,hX1,hX2⟩:=step_store (k:=5) (b:=false) (t:=⟨#[]⟩) k3 rfl (ZOwn.nil _ _) hg2 (Nat.le_refl _) bw4;have HX:Hid (List.map (·.1) ([]:List Zp)=(stp 5).ss∧ZOwn _ _ _ ([]:List Zp)∧Below _ _ _):=⟨rfl,hX1,hX2⟩;have rk:=fun i=>blk_cell k3 i
    have fk:=fun i=>blk_frozen k3 i
    clear hX1 hX2 k2 b3 hlen o3 hos2;simp only [sz0,Option.getD_none] at*;simp only [setAll,Nat.reduceAdd,Nat.zero_add] at kX HX;have rX:=fun i=>blk_cell kX i
    clear kX;go_wp2_with fail
    refine bodyPost_ret (v:=.agg #[.int .i64 5,(.slice none 0 0),.bool false,.string ⟨#[]⟩]) ?_ rfl ⟨_,_,rfl,HX.out.1,HX.out.2.1,HX.out.2.2⟩;simp [results,Tryz.f56,go_sem,rX]
 ·have hE:R=stp 5:=by rw [HR.out,atT,if_neg (by rw [hi];decide)]
  subst hE
  have hg1:Calls Tryz.prog 101 #[.pointer (some ⟨th,0,none⟩),.slice na nl nc] W0 fun e w'=>e=.returned (.tuple #[.pointer none,.bool false])∧Below W0.heap.size W0 w':=by
   refine hg.mono ?_;rintro e w' ⟨hb,⟨hi',-⟩|⟨-,he⟩⟩
   ·rw [hi] at hi';cases hi'
   ·exact⟨he,hb⟩
  clear hg HR hi hno;go_enter Tryz.func56,Tryz.ntmps56;go_wp2_with fail
  refine hg1.mono ?_;rintro e w1 ⟨rfl,b1⟩;have bw1:=Nm.below_two b0 b1;have k1:=blk_below k0 b1;have hg2:w.heap.size<w1.heap.size:=blk_lt k1;obtain⟨kX,hX1,hX2⟩:=step_store (k:=5) (b:=false) (t:=⟨#[]⟩) k1 rfl (ZOwn.nil _ _) hg2 (Nat.le_refl _) bw1;have HX:Hid (List.map (·.1) ([]:List Zp)=(stp 5).ss∧ZOwn _ _ _ ([]:List Zp)∧Below _ _ _):=⟨rfl,hX1,hX2⟩;have rk:=fun i=>blk_cell k1 i
  have fk:=fun i=>blk_frozen k1 i
  clear hg1 k0 c0 hX1 hX2;simp only [setAll,Nat.reduceAdd,Nat.zero_add] at kX HX;have rX:=fun i=>blk_cell kX i
  clear kX;go_wp2_with fail
  refine bodyPost_ret (v:=.agg #[.int .i64 5,(.slice none 0 0),.bool false,.string ⟨#[]⟩]) ?_ rfl ⟨_,_,rfl,HX.out.1,HX.out.2.1,HX.out.2.2⟩;simp [results,Tryz.f56,go_sem,rX]
end Go.Proofs.YtcodajnebegdiaaGreat
