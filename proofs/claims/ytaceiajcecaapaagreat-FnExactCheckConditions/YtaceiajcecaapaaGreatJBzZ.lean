import Derived.Test.YtaceiajcecaapaaGreatJBzC
import Derived.Test.YtaceiajcecaapaaGreatJTrH
import Derived.Test.YtaceiajcecaapaaGreatJZbA
import Derived.Test.YtaceiajcecaapaaGreatJZrM
import Derived.Test.YtaceiajcecaapaaGreatJTrN
import Derived.Test.YtaceiajcecaapaaGreatJCRow
import Derived.RangeFuncNested
import Derived.Test.YtaceiajcecaapaaGreatJZbH
import Derived.Test.YtaceiajcecaapaaGreatJZbG
import Derived.Test.YtaceiajcecaapaaGreatJRrM
import Derived.Test.YtaceiajcecaapaaGreatJTrM
import Derived.Test.YtaceiajcecaapaaGreatJBzFSOA
namespace Go.Proofs.YtaceiajcecaapaaGreat
open Go.RowKit Go.Shelf
set_option linter.unusedVariables false
attribute [local go_sem] Oper.semAt_some
def Zst(B:Nat)(apex:ByteArray)(Zb Rb:Nat)(W:World)(ss:List Sz):Prop:=
 ∃ v ps,Blk W Zb #[.string apex,v] 32∧Blk W Rb #[.string ⟨#[]⟩,.slice none 0 0] 32∧ps.map (·.1)=ss∧ZOwn W B v ps
theorem own_nonc{W:World}{B e s n r:Nat}{v:Value}{xs:List Value}(h:W.ownsRow B e s v n xs)(hr:∃ o:Obj,W.heap[r]? =some o∧o.isCells=false):v.ownBlock≠some r:=by
 intro he
 rcases h.2 with⟨rfl,_⟩|⟨g,cap,cur,rfl,_,hh,_⟩
 ·cases he
 ·simp only [Value.ownBlock,Option.some.injEq] at he;subst he;obtain⟨o,h1,h2⟩:=hr;rw [hh] at h1;cases h1
  cases h2
theorem blk_nonc{W:World}{b r:Nat}{cs:Array Value}{T:TypeId}(h:Blk W b cs T)(hr:∃ o:Obj,W.heap[r]? =some o∧o.isCells=false):b≠r:=by
 intro he;subst he;obtain⟨o,h1,h2⟩:=hr;rw [Blk] at h;rw [h] at h1;cases h1
 cases h2
theorem grown_setC(W:World)(b i:Nat)(v:Value):W.grownBy (W.setCell ⟨b,i,none⟩ v) (some b):=
 ⟨rfl,rfl,rfl,(KeepsWalks.setCell W _ v).size,fun k _ hk=>Below.heap_setCell _ _ _ k (fun e=>hk (by rw [e]))⟩
theorem zst_own{β:Type}(B:Nat)(apex:ByteArray)(Zb Rb:Nat)(f:β->List Sz):Own (fun s W=>Zst B apex Zb Rb W (f s)):=by
 rintro s X Y row ⟨v,ps,h1,h2,h3,h4⟩ hg hrow;refine⟨v,ps,blk_grown h1 hg (fun e=>blk_nonc h1 (hrow Zb e) rfl),blk_grown h2 hg (fun e=>blk_nonc h2 (hrow Rb e) rfl),h3,h4.beside hg (fun g e=>own_nonc h4.outer (hrow g e)) (fun g e p hp=>?_)⟩;obtain⟨i,hi⟩:=List.getElem?_of_mem hp;exact own_nonc (h4.inner i p hi) (hrow g e)
theorem zst_below{B:Nat}{apex:ByteArray}{Zb Rb:Nat}{W W':World}{ss:List Sz}(h:Zst B apex Zb Rb W ss)(hb:Below W.heap.size W W'):Zst B apex Zb Rb W' ss:=by
 obtain⟨v,ps,h1,h2,h3,h4⟩:=h;exact⟨v,ps,blk_below h1 hb,blk_below h2 hb,h3,h4.below hb⟩
theorem keeps_below{W W':World}(h:Below W.heap.size W W'):KeepsOthers W W':=⟨h.size,fun k o hk _=>(h.block k (Array.getElem?_eq_some_iff.1 hk).1).trans hk⟩
theorem zst_more{B:Nat}{apex:ByteArray}{Zb Rb:Nat}{W w1:World}{tmp:Obj}{v v' u:Value}{ps:List Zp}{s:Sz}(h1:Blk W Zb #[.string apex,v] 32)(h2:Blk W Rb #[.string ⟨#[]⟩,.slice none 0 0] 32)(h4:ZOwn W B v ps)(hB:B<=Zb)(hBW:B<=W.heap.size)(hne:Zb≠Rb)
 (hu:W.ownsRow B 9 1 u s.da.length (s.da.map Value.string)) (ha:∀ p∈ps,∀ g,p.2.ownBlock=some g->u.ownBlock≠some g)
 (ho:w1.ownsRow B 65 4 v' (ps.length+1) (zpVs ps++zpV (s,u))) (hg:(W.alloc tmp).grownBy w1 v.ownBlock):
 Blk w1 Zb #[.string apex,v] 32∧Zst B apex Zb Rb (w1.setCell ⟨Zb,1,none⟩ v') (ps.map (·.1)++[s])∧KeepsOthers W (w1.setCell ⟨Zb,1,none⟩ v')∧Below B W (w1.setCell ⟨Zb,1,none⟩ v')∧∀ b cs T,Blk W b cs T->65≠T->b≠Zb->Blk (w1.setCell ⟨Zb,1,none⟩ v') b cs T:=by
 have ha1:Below W.heap.size W (W.alloc tmp):=(Below.refl _ W).alloc (Nat.le_refl _) tmp;have h1':=blk_below h1 ha1;have h2':=blk_below h2 ha1;have h4':=h4.below ha1;have hu':=own_below hu ha1;have k1:Blk w1 Zb #[.string apex,v] 32:=blk_grown h1' hg (fun e=>own_nb h4'.outer h1' (by decide) e);have k2:Blk w1 Rb #[.string ⟨#[]⟩,.slice none 0 0] 32:=blk_grown h2' hg (fun e=>own_nb h4'.outer h2' (by decide) e);have z:=h4'.snoc hu' ha ho hg;have e1:=blk_set k1 1 v';simp only [List.setIfInBounds_toArray,List.set_cons_zero,List.set_cons_succ] at e1;have hgs:=grown_setC w1 Zb 1 v';refine⟨k1,⟨v',ps++[(s,u)],e1,blk_grown k2 hgs (fun e=>by cases e;exact hne rfl),by simp,?_⟩,?_,?_,fun b cs T hb hT hbz=>?_⟩
 ·refine z.beside hgs (fun g e=>by cases e;exact own_nb z.outer k1 (by decide)) (fun g e p hp=>?_);cases e
  obtain⟨i,hi⟩:=List.getElem?_of_mem hp;exact own_nb (z.inner i p hi) k1 (by decide)
 ·refine((KeepsOthers.alloc W tmp).trans (KeepsOthers.of_grownBy hg fun j o ej hj=>?_)).trans (KeepsOthers.of_grownBy hgs fun j o ej hj=>?_)
  ·cases ho:o.isCells with
   |true=>rfl
   |false=>exact absurd ej (own_nonc h4'.outer ⟨o,hj,ho⟩)
  ·cases ho:o.isCells with
   |true=>rfl
   |false=>cases ej;exact absurd rfl (blk_nonc k1 ⟨o,hj,ho⟩)
 ·refine((((Below.refl B W).alloc hBW tmp).grown hg (by simp;omega) fun j ej=>?_)).setCell (p:=⟨Zb,1,none⟩) hB v';exact(h4'.outer.lt j ej).1
 ·exact blk_grown (blk_grown (blk_below hb ha1) hg (fun e=>own_nb h4'.outer (blk_below hb ha1) hT e)) hgs (fun e=>by cases e;exact hbz rfl)
def slA:Value->Option Addr
 |.slice a _ _=>a
 |_=>none
def slN:Value->Nat
 |.slice _ n _=>n
 |_=>0
def slC:Value->Nat
 |.slice _ _ c=>c
 |_=>0
theorem sl_eq{w:World}{v:Value}{l:List ByteArray}(h:Nm.SRow w v l):v=.slice (slA v) (slN v) (slC v):=by
 obtain⟨a,cap,rfl,_⟩:=h;rfl
theorem zoneT_snoc(os:List GOw)(o:GOw):zoneT (os++[o])=zoneT os++o.ss.map fun s=>szT (o,s):=by
 simp [zoneT,grT]
theorem zoneT_len:∀ (os:List GOw),(∀ o∈os,o.ss.length<=400000)->(zoneT os).length<=os.length*400000:=by
 refine snoc_ind ?_ ?_
 ·intro _;simp [zoneT,grT]
 ·intro l o ih h;rw [zoneT_snoc];have h1:=ih (fun q hq=>h q (by simp [hq]));have h2:=h o (by simp);simp only [List.length_append,List.length_map,List.length_singleton];omega
set_option maxRecDepth 100000 in
set_option maxHeartbeats 4000000 in
theorem zone_in(F:Fence)(n:Nat)(h1:F.fn 36)(h2:F.fn 73)(h3:F.fn 74)(h4:F.fn 119)(h5:F.fn 75)(h6:F.fn 120)(h7:F.fn 76)(hro:F.round=none)(hn:9<=n)
 (bb oo th:Nat) (rv:Value) (os:List GOw) (B:Nat) (apex:ByteArray) (w:World) (h:TrAt w B th rv os) (hd:TrS os) (hl:os.length<=400000) (hLab:LabAt w (fpT th rv os) os) (hc:w.cell? ⟨bb,oo+1,none⟩=some (ptr th))
 (hcl:∀ m W,CallsIn F m Tryz.prog 73 #[.string apex] W fun e w'=>e=.returned (.string apex)∧Below W.heap.size W w')
 (hset:∀ (o:GOw) (s:GSe) (m:Nat) (W:World),o∈os->s∈o.ss->Below w.heap.size w W->CallsIn F m Tryz.prog 76 #[ptr o.blk,.int .i64 s.ty] W fun e w'=>∃ v,e=.returned (.tuple #[.agg #[.string o.nm,.int .i64 s.ty,.int .i64 s.tt,v],.bool true])∧w'.ownsRow W.heap.size 9 1 v s.da.length (s.da.map fun p=>.string p.2)∧Below W.heap.size W w'):
 CallsIn F n Tryz.prog 36 #[.pointer (some ⟨bb,oo,none⟩),.string apex] w fun e W'=>∃ v ps,e=.returned (.agg #[.string apex,v])∧ps.map (·.1)=zoneT os∧ZOwn W' w.heap.size v ps∧Below w.heap.size w W':=by
 obtain⟨i0,hi,hz0,hz1,hz2⟩:=info_parts Tryz.infoSet;refine callsIn_of_wp_marks Tryz.func36 rfl h1 ?_ hro;simp only [Tryz.ntmps36,List.size_toArray,List.length_cons,List.length_nil,Nat.reduceAdd,Nat.reduceSub,Array.replicate_succ,Array.replicate_zero,List.push_toArray,List.append_toArray,List.nil_append,List.cons_append];have kR:=blk_new w #[.string ⟨#[]⟩,.slice none 0 0] 32;have b0:=(Below.refl w.heap.size w).alloc (Nat.le_refl _) (.cells #[.string ⟨#[]⟩,.slice none 0 0] 32);have hth:th<w.heap.size:=blk_lt h.head;have n1:1<=n:=by omega
 have hbb:bb<w.heap.size:=World.block_lt_of_cell? w _ hc;unfold ptr at hc hset;have HX:=Nm.hide (And.intro h (And.intro hd (And.intro hLab hset)));clear h hd hLab hset
 gi_wp2_with (
  gi_at_call 73
  refine(hcl _ _).mono ?_;rintro e w1 ⟨rfl,b1⟩;have b1':=Nm.below_two b0 b1;have hw1s:Hid (w.heap.size+1<=w1.heap.size):=by have:=b1.size;rw [World.size_alloc] at this;exact this
  have kR1:=blk_below kR b1;have c1:=(b1'.cell (p:=⟨bb,oo+1,none⟩) hbb).trans hc;clear kR b0 b1;have kR2:=blk_alloc kR1 (.cells #[.string apex,.slice none 0 0] 32);have kZ2:=blk_new w1 #[.string apex,.slice none 0 0] 32;have b2:=b1'.alloc b1'.size (.cells #[.string apex,.slice none 0 0] 32)
  have c2:=(b2.cell (p:=⟨bb,oo+1,none⟩) hbb).trans hc)
 refine(allL_in F (n-1) h3 hro _ _).mono ?_;rintro e w3 ⟨rfl,rfl⟩
 gi_wp2
 have kR3:=blk_alloc kR2 (.cells #[.pointer (some ⟨th,0,none⟩)] 69);have kZ3:=blk_alloc kZ2 (.cells #[.pointer (some ⟨th,0,none⟩)] 69);have kT3:=blk_new (w1.alloc (.cells #[.string apex,.slice none 0 0] 32)) #[.pointer (some ⟨th,0,none⟩)] 69;have b3:=b2.alloc b2.size (.cells #[.pointer (some ⟨th,0,none⟩)] 69);rw [World.size_alloc] at kT3;obtain⟨W0,hW0⟩:∃ W0,(w1.alloc (.cells #[.string apex,.slice none 0 0] 32)).alloc (.cells #[.pointer (some ⟨th,0,none⟩)] 69)=W0:=⟨_,rfl⟩;have hsz:W0.heap.size=w1.heap.size+2:=by rw [<- hW0];simp
 have hw1:=b1'.size;rw [hW0] at kR3 kZ3 kT3 b3 ⊢;clear hW0 kR2 kZ2 b2 c2 c1 kR1;have hza:os.attach.length=os.length:=List.length_attach
 have hR0:RwsL (fun x:{o:GOw // o∈os}=>slA x.1.lv) (fun x=>slN x.1.lv) (fun x=>slC x.1.lv) (fun x=>⟨x.1.blk,0,none⟩) w.heap.size w rv os.attach:=by
  refine rwsL_own _ _ _ _ (B:=B) (e:=165) _ ?_;have hr:=HX.out.1.rows
  have e1:(os.attach.map fun x:{o:GOw // o∈os}=>((Value.slice (slA x.1.lv) (slN x.1.lv) (slC x.1.lv)),(Value.pointer (some (⟨x.1.blk,0,none⟩:Addr)))))=owRs os:=by
   rw [owRs]
   conv=>rhs;rw [<- List.attach_map_subtype_val os]
   rw [List.map_map];refine List.map_congr_left (fun x _=>?_);simp only [Function.comp,ptr];rw [<- sl_eq (HX.out.2.2.1 x.1 x.2).row]
  rw [e1];rw [show(owRs os).length=os.attach.length by simp [owRs]] at hr;exact hr
 have kh3:W0.cell? ⟨th,1,none⟩=some rv:=(b3.cell (p:=⟨th,1,none⟩) hth).trans ((blk_cell HX.out.1.head 1).trans rfl)
 refine wpIn_rangeFunc_ownH hro n1 (gf:=119) (lb:=#[.pointer (some ⟨w1.heap.size+1,0,none⟩)]) rfl h4 (enters_of Tryz.func119 (by kernel_rfl) rfl)
  (allStopsL (fun x:{o:GOw // o∈os}=>slA x.1.lv) (fun x=>slN x.1.lv) (fun x=>slC x.1.lv) (fun x=>⟨x.1.blk,0,none⟩) F (n-1) h4 hro (by omega) (w1.heap.size+1) th w.heap.size rv os.attach (by omega) W0 (by omega) hth (by omega) ((blk_cell kT3 0).trans rfl) kh3 (hR0.below b3)) belowK_t (belowK_b (by omega)) (Below.refl _ _) (fun _=>rfl)
  (fun pre W=>Zst w.heap.size apex w1.heap.size w.heap.size W (zoneT (pre.map (·.1)))∧(Below w.heap.size w W∧w1.heap.size+2<=W.heap.size))
  (fun _ _ _=>False)
  (OwnFrom.and (Own.from (zst_own _ _ _ _ (fun pre:List {o:GOw // o∈os}=>zoneT (pre.map (·.1)))) _) (OwnFrom.and (ownFrom_below (Nat.le_refl _) (by omega)) (fun _ _ _ _ hs hg _=>Nat.le_trans hs hg.size)))
  (fun _ _ _ _ _ hs _ _=>hs)
  ⟨⟨.slice none 0 0,[],kZ3,kR3,rfl,ZOwn.nil _ _⟩,b3,by omega⟩
  (fun x a' W=>∃ Bx,w1.heap.size+1<Bx∧Blk W Bx #[.pointer (some ⟨x.1.blk,0,none⟩)] 110∧a'={tmps:=#[.pointer (some ⟨bb,oo,none⟩),.string apex,undef,undef,.pointer (some ⟨w.heap.size,0,none⟩),.pointer (some ⟨w1.heap.size,0,none⟩),undef,.pointer (some ⟨Bx,0,none⟩),undef,undef,undef,.string apex,.string apex,.agg #[.string apex,.slice none 0 0],.pointer (some ⟨bb,oo,none⟩),.pointer (some ⟨bb,oo,none⟩),.pointer (some ⟨bb,oo+1,none⟩),.pointer (some ⟨th,0,none⟩),.func (.func 119) #[] #[.pointer (some ⟨w1.heap.size+1,0,none⟩)],.slice (slA x.1.lv) (slN x.1.lv) (slC x.1.lv),.pointer (some ⟨x.1.blk,0,none⟩),undef,undef,undef,undef,undef,undef,undef,undef,undef,undef,undef,undef,undef,undef,undef,undef,undef,undef,undef,undef],defers:=[]})
  (fun x a' _ X Y row hs hg hr=>by obtain⟨Bx,h1,h2,h3⟩:=hs;exact⟨Bx,h1,blk_grown h2 hg (fun e=>blk_nonc h2 (hr Bx e).2 rfl),h3⟩)
  ?assign ?body ?done ?stop
 case assign=>
  rintro l pre x W K ⟨hz1,hB1,hs1⟩ hK;have HS:=Nm.hide hs1;clear hs1
  gi_wp2
  exact hK _ _ ((KeepsOthers.alloc _ _).from _) ((Below.refl _ W).alloc hB1.size _) ⟨zst_below hz1 ((Below.refl _ W).alloc (Nat.le_refl _) _),hB1.alloc hB1.size _,by have:=HS.out;simp;omega⟩ ⟨W.heap.size,by have:=HS.out;omega,blk_new W _ _,rfl⟩
 case body=>
  rintro l pre x a' W hl2 ⟨r,hr⟩ ⟨hzs,hB1,hs1⟩ ⟨Bx,hBx,bX,rfl⟩ hlt;have ow:=HX.out.1.owners x.1 x.2;have hxd:=HX.out.2.1.2 x.1 x.2;have cX:=(blk_cell bX 0).trans rfl;have cN:W.cell? ⟨x.1.blk,2,none⟩=some (.pointer (some ⟨x.1.hd,0,none⟩)):=(hB1.cell (p:=⟨x.1.blk,2,none⟩) (blk_lt ow.node)).trans ((blk_cell ow.node 2).trans rfl);have n2:1<=n-1-1:=by omega
  have HS:=Nm.hide (And.intro hs1 (And.intro hl2 (And.intro hlt hBx)));clear hs1 hl2 hlt hBx
  gi_wp2_with (gi_at_call 75;refine(CallsIn.inRound l (allI_in F (n-1-1-1) h5 hro _ _)).mono ?_;rintro e w' ⟨rfl,rfl⟩)
  have hsW:=hB1.size;have hrl:=(Array.getElem?_eq_some_iff.1 hr).1;have bA:=(Below.refl w.heap.size W).alloc hsW (.cells #[.pointer (some ⟨x.1.hd,0,none⟩)] 113);have bA':=(Below.refl W.heap.size W).alloc (Nat.le_refl _) (.cells #[.pointer (some ⟨x.1.hd,0,none⟩)] 113);have kN:=blk_new W #[.pointer (some ⟨x.1.hd,0,none⟩)] 113;have hr':(W.alloc (.cells #[.pointer (some ⟨x.1.hd,0,none⟩)] 113)).heap[l]? =some (.loop r):=(Below.heap_alloc W _ l hrl).trans hr;have hzb:x.1.ss.attach.length=x.1.ss.length:=List.length_attach
  have hR1:RwsI (fun s:{s:GSe // s∈x.1.ss}=>s.1.ty) (fun s=>⟨s.1.blk,0,none⟩) w.heap.size w x.1.rv x.1.ss.attach:=by
   refine rwsI_own _ _ (B:=B) (e:=172) _ ?_;have hr:=ow.rows
   have e1:(x.1.ss.attach.map fun s:{s:GSe // s∈x.1.ss}=>((Value.int .i64 s.1.ty),(Value.pointer (some (⟨s.1.blk,0,none⟩:Addr)))))=seRs x.1.ss:=by
    rw [seRs]
    conv=>rhs;rw [<- List.attach_map_subtype_val x.1.ss]
    rw [List.map_map];rfl
   rw [e1];rw [show(seRs x.1.ss).length=x.1.ss.attach.length by simp [seRs]] at hr;exact hr
  have hB2:=hB1.trans bA;have khI:(W.alloc (.cells #[.pointer (some ⟨x.1.hd,0,none⟩)] 113)).cell? ⟨x.1.hd,1,none⟩=some x.1.rv:=(hB2.cell (p:=⟨x.1.hd,1,none⟩) (blk_lt ow.head)).trans ((blk_cell ow.head 1).trans rfl)
  have HL:(zoneT (pre.map (·.1))).length<=160000000000:=by
   have h1:=zoneT_len (pre.map (·.1)) (fun o ho=>by
    obtain⟨y,_,rfl⟩:=List.mem_map.1 ho
    exact(HX.out.2.1.2 y.1 y.2).2.1)
   have:=HS.out.2.2.1;rw [List.length_map] at h1;omega
  refine wpIn_rangeFunc_ownN (l₀:=l) (r₀:=r) rfl hr' n2 (gf:=120) (lb:=#[.pointer (some ⟨W.heap.size,0,none⟩)]) rfl h6 (enters_of Tryz.func120 (by kernel_rfl) rfl)
   ((allStopsI (fun s:{s:GSe // s∈x.1.ss}=>s.1.ty) (fun s=>⟨s.1.blk,0,none⟩) F (n-1-1-1) h6 hro (by omega) W.heap.size x.1.hd w.heap.size x.1.rv x.1.ss.attach (by have:=hxd.2.1;omega) _ (by simp) (blk_lt ow.head) (by simp;omega) ((blk_cell kN 0).trans rfl) khI (hR1.below hB2)).inRound l) belowK_t (belowK_b (by simp;omega)) (Below.refl _ _) (fun _=>rfl)
   (fun pre' W'=>(Zst w.heap.size apex w1.heap.size w.heap.size W' (zoneT (pre.map (·.1))++pre'.map fun s=>szT (x.1,s.1))∧Blk W' Bx #[.pointer (some ⟨x.1.blk,0,none⟩)] 110)∧(Below w.heap.size W W'∧KeepsFrom W0.heap.size W W'))
   (fun _ _ _=>False)
   (OwnFrom.and (OwnFrom.and (Own.from (zst_own _ _ _ _ (fun pre':List {s:GSe // s∈x.1.ss}=>zoneT (pre.map (·.1))++pre'.map fun s=>szT (x.1,s.1))) _) (fun _ X Y row hs hg hr=>blk_grown hs hg (fun e=>blk_nonc hs (hr Bx e).2 rfl))) (OwnFrom.and (ownFrom_below hsW (by simp;omega)) (ownFrom_keepsFrom (by simp))))
   (fun _ _ _ _ _ hs _ _=>hs)
   ⟨⟨by simpa using zst_below hzs bA',blk_below bX bA'⟩,bA,(KeepsOthers.alloc _ _).from _⟩
   (fun s a'' _=>a''={tmps:=#[.pointer (some ⟨bb,oo,none⟩),.string apex,undef,undef,.pointer (some ⟨w.heap.size,0,none⟩),.pointer (some ⟨w1.heap.size,0,none⟩),undef,.pointer (some ⟨Bx,0,none⟩),.int .i64 s.1.ty,undef,undef,.string apex,.string apex,.agg #[.string apex,.slice none 0 0],.pointer (some ⟨bb,oo,none⟩),.pointer (some ⟨bb,oo,none⟩),.pointer (some ⟨bb,oo+1,none⟩),.pointer (some ⟨th,0,none⟩),.func (.func 119) #[] #[.pointer (some ⟨w1.heap.size+1,0,none⟩)],.slice (slA x.1.lv) (slN x.1.lv) (slC x.1.lv),.pointer (some ⟨x.1.blk,0,none⟩),.pointer (some ⟨x.1.blk,0,none⟩),.pointer (some ⟨x.1.blk,0,none⟩),.pointer (some ⟨x.1.blk,2,none⟩),.pointer (some ⟨x.1.hd,0,none⟩),.func (.func 120) #[] #[.pointer (some ⟨W.heap.size,0,none⟩)],.int .i64 s.1.ty,.pointer (some ⟨s.1.blk,0,none⟩),undef,undef,undef,undef,undef,undef,undef,undef,undef,undef,undef,undef,undef],defers:=[]})
   (fun _ _ _ _ _ _ hs _ _=>hs)
   ?assign2 ?body2 ?done2 ?stop2
  case assign2=>
   rintro l2 pre' y W' K hi hK
   gi_wp2
   exact hK _ _ (KeepsFrom.refl _ _) (Below.refl _ _) hi rfl
  case body2=>
   rintro l2 pre' s a'' W' _ _ ⟨⟨hz2,bX2⟩,hBW,hKF⟩ rfl hlt2;obtain⟨v,ps,k1,k2,e3,z4⟩:=hz2;obtain⟨va,vc,rfl⟩:=own_sl z4.outer;have hB3:=hB1.trans hBW;have cX2:=(blk_cell bX2 0).trans rfl;have hst:=HX.out.2.2.2 x.1 s.1 (n-1-1-1-1-1) W' x.2 s.2 hB3
   have hps:ps.length<=160000400000:=by
    have h1:=congrArg List.length e3;simp only [List.length_map,List.length_append] at h1;have:=hxd.2.1;omega
   have HQ:=Nm.hide (And.intro e3 (And.intro hBW (And.intro hKF (And.intro hB3 (And.intro HL hlt2)))));have hsW':=hB3.size;clear e3 hBW hKF hB3 HL hlt2 cX cN hzs bX hr hr' hrl bA bA' kN hR1 hB2 khI hzb hxd ow hB1 hsW;have n3:1<=n-1-1-1-1:=by omega
   gi_wp2_with (first
    |(gi_at_call 76
      refine(CallsIn.inRound l2 (CallsIn.inRound l hst)).mono ?_;rintro e w4 ⟨u,rfl,hu,b4⟩;obtain⟨ua,uc,rfl⟩:=own_sl hu;have b5:=b4.alloc b4.size (.cells #[.string x.1.nm,.int .i64 s.1.ty,.int .i64 s.1.tt,.slice ua s.1.da.length uc] 65);have b6:Below W'.heap.size W' ((w4.alloc (.cells #[.string x.1.nm,.int .i64 s.1.ty,.int .i64 s.1.tt,.slice ua s.1.da.length uc] 65)).alloc (.cells #[.string x.1.nm,.int .i64 s.1.ty,.int .i64 s.1.tt,.slice ua s.1.da.length uc] 65)):=b5.alloc b5.size _;have c5:=(blk_cell (blk_below k1 b5) 1).trans rfl;have z6:=(z4.below b6).outer
      have hu5:(w4.alloc (.cells #[.string x.1.nm,.int .i64 s.1.ty,.int .i64 s.1.tt,.slice ua s.1.da.length uc] 65)).ownsRow w.heap.size 9 1 (.slice ua s.1.da.length uc) (szT (x.1,s.1)).da.length ((szT (x.1,s.1)).da.map Value.string):=by
       have h9:=own_base (own_below hu ((Below.refl _ w4).alloc (Nat.le_refl _) (.cells #[.string x.1.nm,.int .i64 s.1.ty,.int .i64 s.1.tt,.slice ua s.1.da.length uc] 65))) hsW';simpa [szT,List.map_map,Function.comp_def] using h9
      have hap:∀ p∈ps,∀ g,p.2.ownBlock=some g->(Value.slice ua s.1.da.length uc).ownBlock≠some g:=fun p hp g e e'=>by
       obtain⟨i,hi⟩:=List.getElem?_of_mem hp;have h8:=((z4.inner i p hi).lt g e).2;have h9:=(hu.lt g e').1;omega
      have HU:=Nm.hide (And.intro hu5 hap)
      clear hu5 hap hu b4)
    |(gi_at_builtin
      refine wpListIn_append_own _ rfl _ _ 30 rfl w.heap.size 65 i0 (.agg #[.string ByteArray.empty,.int .i64 0,.int .i64 0,.slice none 0 0]) 4 56 Tryz.underlying30 hi hz0 hz1 hz2 rfl (by decide) _ _ _ rfl z6 ⟨w4.heap.size+1,0,none⟩ 1 1 [.string x.1.nm,.int .i64 s.1.ty,.int .i64 s.1.tt,.slice ua s.1.da.length uc] rfl rfl (by have h9:=cell_newV (w4.alloc (.cells #[.string x.1.nm,.int .i64 s.1.ty,.int .i64 s.1.tt,.slice ua s.1.da.length uc] 65)) #[.string x.1.nm,.int .i64 s.1.ty,.int .i64 s.1.tt,.slice ua s.1.da.length uc] 65;rw [World.size_alloc] at h9;exact h9) (by intro u hu;simp at hu;rcases hu with rfl|rfl|rfl|rfl<;>rfl) (by unfold maxLen;omega) (by omega) (by have:=b6.size;omega) ?_;intro v' w7 hown' hgrow _;obtain⟨g',cap',rfl⟩:=ownsRow_succ hown';have zm:=zst_more (apex:=apex) (s:=szT (x.1,s.1)) (blk_below k1 b5) (blk_below k2 b5) (z4.below b5) (by have:=hw1s.out;omega) (by have:=b5.size;omega) (by have:=hw1s.out;omega) HU.out.1 HU.out.2 hown' hgrow;obtain⟨q1,q2,q3,q4,q5⟩:=zm;have c7:=fun i=>blk_cell q1 i
      have f7:=fun i=>blk_frozen q1 i))
   obtain⟨e3,hBW,hKF,hB3,_⟩:=HQ.out;have hKb:=(keeps_below b5).trans q3;have hBb:=(b5.mono hsW').trans q4;refine⟨hKb.from _,hBb,⟨?_,q5 _ _ _ (blk_below bX2 b5) (by decide) (by have:=HS.out.2.2.2;omega)⟩,hBW.trans hBb,hKF.trans (hKb.from _)⟩;rw [e3] at q2;rw [List.map_append,<- List.append_assoc];exact q2
  case done2=>
   rintro ys' W' rfl ⟨⟨hz2,bX2⟩,hBW,hKF⟩;have HS2:=Nm.hide hKF.size
   gi_wp2
   refine⟨hKF,hBW,?_,hB1.trans hBW,by have:=HS2.out;have:=HS.out.1;omega⟩
   have e5:zoneT ((pre++[x]).map (·.1))=zoneT (pre.map (·.1))++x.1.ss.attach.map fun s=>szT (x.1,s.1):=by
    rw [List.map_append,List.map_cons,List.map_nil,zoneT_snoc];congr 1
    conv=>lhs;rw [<- List.attach_map_subtype_val x.1.ss]
    rw [List.map_map];rfl
   rw [e5];exact hz2
  case stop2=>
   rintro c pre' W' _ h;exact h.elim
 case done=>
  rintro D zs W hD rfl ⟨hzs,hB1,hs1⟩ hK;rw [List.attach_map_subtype_val] at hzs;obtain⟨v,ps,k1,k2,e3,z4⟩:=hzs;obtain⟨va,vc,rfl⟩:=own_sl z4.outer;have r1:=fun i=>blk_cell k1 i
  have r2:=fun i=>blk_cell k2 i
  have f2:=fun i=>blk_frozen k2 i
  gi_wp2
  have hDn:D≠w.heap.size:=by omega
  have k5:=blk_set (blk_set k2 0 (.string apex)) 1 (.slice va ps.length vc);simp only [List.setIfInBounds_toArray,List.set_cons_zero,List.set_cons_succ] at k5;have hK5:((W.setCell ⟨w.heap.size,0,none⟩ (.string apex)).setCell ⟨w.heap.size,1,none⟩ (.slice va ps.length vc)).heap[D]? =some (.deferred (some [])):=(heap_setCell_other _ ⟨w.heap.size,1,none⟩ D _ hDn).trans ((heap_setCell_other _ ⟨w.heap.size,0,none⟩ D _ hDn).trans hK);have b5:=(hB1.setCell (p:=⟨w.heap.size,0,none⟩) (Nat.le_refl _) (.string apex)).setCell (p:=⟨w.heap.size,1,none⟩) (Nat.le_refl _) (.slice va ps.length vc)
  have z5:=(z4.beside (grown_setC W w.heap.size 0 (.string apex)) (fun g e=>by cases e;exact own_nb z4.outer k2 (by decide)) (fun g e p hp=>by
   cases e
   obtain⟨i,hi⟩:=List.getElem?_of_mem hp
   exact own_nb (z4.inner i p hi) k2 (by decide)))
  have k2':=blk_set k2 0 (.string apex)
  have z6:=(z5.beside (grown_setC _ w.heap.size 1 (.slice va ps.length vc)) (fun g e=>by cases e;exact own_nb z5.outer k2' (by decide)) (fun g e p hp=>by
   cases e
   obtain⟨i,hi⟩:=List.getElem?_of_mem hp
   exact own_nb (z5.inner i p hi) k2' (by decide)))
  clear r1 r2 f2 k1 k2 k2' z4 z5 hK hB1;generalize (W.setCell ⟨w.heap.size,0,none⟩ (.string apex)).setCell ⟨w.heap.size,1,none⟩ (.slice va ps.length vc)=W5 at*;refine⟨by simp,.inl ⟨_,_,rfl,run_takeDeferred hK5,?_⟩⟩;have b6:=b5.trans (belowK_b (w:=w) (Nat.le_refl _) W5 D _ (.deferred none) (by omega) hK5 rfl rfl);have k6:Blk (W5.putObj D (.deferred none)) w.heap.size _ _:=blk_grown k5 (grownBy_putObj' W5 D _) (fun e=>by cases e;exact hDn rfl)
  have z7:ZOwn (W5.putObj D (.deferred none)) w.heap.size (.slice va ps.length vc) ps:=z6.beside (grownBy_putObj' W5 D _) (fun g e=>by cases e;exact own_nonc z6.outer ⟨_,hK5,rfl⟩) (fun g e p hp=>by
   cases e
   obtain⟨i,hi⟩:=List.getElem?_of_mem hp
   exact own_nonc (z6.inner i p hi) ⟨_,hK5,rfl⟩)
  refine⟨.agg #[.string apex,.slice va ps.length vc],?_,_,ps,rfl,e3,z7,b6⟩;have r:=fun i=>blk_cell k6 i
  simp [results,Tryz.results36,go_sem,Result.andThen,r]
 case stop=>
  rintro D c pre W _ _ h _;exact h.elim
theorem zone_any(bb oo th:Nat)(rv:Value)(os:List GOw)(B:Nat)(apex:ByteArray)(w:World)(h:TrAt w B th rv os)(hd:TrS os)(hl:os.length<=400000)(hLab:LabAt w (fpT th rv os) os)(hc:w.cell? ⟨bb,oo+1,none⟩=some (ptr th))(ha:apex.size<=1000000000):
 Calls Tryz.prog 36 #[.pointer (some ⟨bb,oo,none⟩),.string apex] w fun e W'=>∃ v ps,e=.returned (.agg #[.string apex,v])∧ps.map (·.1)=zoneT os∧ZOwn W' w.heap.size v ps∧Below w.heap.size w W':=
 (callsIn_wide (n:=9)).1 (zone_in Fence.wide 9 trivial trivial trivial trivial trivial trivial trivial rfl (by omega) bb oo th rv os B apex w h hd hl hLab hc
  (fun m W=>callsIn_wide.2 (clone_any apex W ha))
  (fun o s m W ho hs hW=>callsIn_wide.2 (ownerSet_any o s B W ((h.owners o ho).below hW) (by have:=(hd.2 o ho).2.1;omega) (hd.2 o ho).1 hs (by have:=((hd.2 o ho).2.2 s hs).2;omega))))
end Go.Proofs.YtaceiajcecaapaaGreat
namespace Go.Proofs.YtaceiajcecaapaaGreat
open Go.RowKit Go.Shelf
set_option linter.unusedVariables false
attribute [local go_sem] Oper.semAt_some
theorem infoOwP:(Tryz.prog.info? 110).map (fun i=>(i.zero,i.size,i.bytes))=some (some (.pointer none),1,8):=by kernel_rfl
def tailV:Option GOw->Value
 |none=>.slice none 0 0
 |some q=>.slice (slA q.lv) (slN q.lv) (slC q.lv)
theorem belK_mem:∀ (pre:List GOw) (q:GOw),(belK pre).1=some q->q∈pre:=by
 refine snoc_ind ?_ ?_
 ·intro q h;simp [belK] at h
 ·intro l o ih q h;rw [belK_snoc,belStep] at h
  cases ht:(belK l).1 with
  |none=>
   rw [ht] at h;simp only at h
   split at h
   ·simp at h;simp [h]
   ·simp at h
  |some t=>
   rw [ht] at h;have:=ih t ht;simp only at h
   split at h
   ·simp at h;rw [<- h];simp [this]
   ·split at h
    ·simp at h;simp [h]
    ·simp at h;rw [<- h];simp [this]
theorem belK_len:∀ (pre:List GOw),(belK pre).2.length<=pre.length:=by
 refine snoc_ind ?_ ?_
 ·simp [belK]
 ·intro l o ih;rw [belK_snoc,belStep,List.length_append,List.length_singleton]
  cases (belK l).1 with
  |none=>
   simp only
   split
   ·simp;omega
   ·simp;omega
  |some t=>
   simp only
   split
   ·simp;omega
   ·split
    ·simp;omega
    ·simp;omega
set_option maxRecDepth 100000 in
set_option maxHeartbeats 4000000 in
theorem belowTails_in(F:Fence)(n:Nat)(h1:F.fn 115)(h2:F.fn 82)(h3:F.fn 74)(h4:F.fn 119)(h5:F.fn 114)(hro:F.round=none)(hn:6<=n)
 (bb oo th:Nat) (rv:Value) (os:List GOw) (B:Nat) (w:World) (h:TrAt w B th rv os) (hl:os.length<=400000) (hLab:LabAt w (fpT th rv os) os) (hc:w.cell? ⟨bb,oo+1,none⟩=some (ptr th))
 (hun:∀ (o q:GOw) (m:Nat) (W:World),o∈os->q∈os->Below w.heap.size w W->CallsIn F m Tryz.prog 82 #[.slice (slA o.lv) (slN o.lv) (slC o.lv),.slice (slA q.lv) (slN q.lv) (slC q.lv)] W fun e w'=>e=.returned (.bool (underB o.lab q.lab))∧Below W.heap.size W w')
 (hhas:∀ (o:GOw) (m:Nat) (W:World),o∈os->Below w.heap.size w W->CallsIn F m Tryz.prog 114 #[.pointer (some ⟨o.blk,0,none⟩),.int .i64 39] W fun e w'=>e=.returned (.bool (has39 o))∧Below W.heap.size W w'):
 CallsIn F n Tryz.prog 115 #[.pointer (some ⟨bb,oo,none⟩)] w fun e W'=>∃ v,e=.returned v∧W'.ownsRow w.heap.size 110 1 v (belK os).2.length ((belK os).2.map fun o=>ptr o.blk)∧Below w.heap.size w W':=by
 have n1:1<=n:=by omega
 obtain⟨i0,hi,hz0,hz1,hz2⟩:=info_parts infoOwP;have hth:th<w.heap.size:=blk_lt h.head;have hbb:bb<w.heap.size:=World.block_lt_of_cell? w _ hc;unfold ptr at hc;have HX:=Nm.hide (And.intro h (And.intro hLab (And.intro hun hhas)));clear h hLab hun hhas;have c3:(((w.alloc (.cells #[.slice none 0 0] 157)).alloc (.cells #[.slice none 0 0] 68)).alloc (.cells #[.bool false] 4)).cell? ⟨bb,oo+1,none⟩=some (.pointer (some ⟨th,0,none⟩)):=((((Below.refl w.heap.size w).alloc (Nat.le_refl _) _).alloc (by simp) _).alloc (by simp;omega) _).cell (p:=⟨bb,oo+1,none⟩) hbb|>.trans hc
 refine callsIn_of_wp_marks Tryz.func115 rfl h1 ?_ hro;simp only [Tryz.ntmps115,List.size_toArray,List.length_cons,List.length_nil,Nat.reduceAdd,Nat.reduceSub,Array.replicate_succ,Array.replicate_zero,List.push_toArray,List.append_toArray,List.nil_append,List.cons_append]
 gi_wp2_with (gi_at_call 74;refine(allL_in F (n-1) h3 hro _ _).mono ?_;rintro e w' ⟨rfl,rfl⟩)
 have bO:=((Boxed.new w 157 (.slice none 0 0)).alloc (.cells #[.slice none 0 0] 68)).alloc (.cells #[.bool false] 4);have bT:=(Boxed.new (w.alloc (.cells #[.slice none 0 0] 157)) 68 (.slice none 0 0)).alloc (.cells #[.bool false] 4);have bF:=Boxed.new ((w.alloc (.cells #[.slice none 0 0] 157)).alloc (.cells #[.slice none 0 0] 68)) 4 (.bool false);have bI:=Boxed.new (((w.alloc (.cells #[.slice none 0 0] 157)).alloc (.cells #[.slice none 0 0] 68)).alloc (.cells #[.bool false] 4)) 69 (.pointer (some ⟨th,0,none⟩));have bO:=bO.alloc (.cells #[.pointer (some ⟨th,0,none⟩)] 69);have bT:=bT.alloc (.cells #[.pointer (some ⟨th,0,none⟩)] 69);have bF:=bF.alloc (.cells #[.pointer (some ⟨th,0,none⟩)] 69);simp only [World.size_alloc] at bT bF bI;have b3:Below w.heap.size w ((((w.alloc (.cells #[.slice none 0 0] 157)).alloc (.cells #[.slice none 0 0] 68)).alloc (.cells #[.bool false] 4)).alloc (.cells #[.pointer (some ⟨th,0,none⟩)] 69)):=((((Below.refl w.heap.size w).alloc (Nat.le_refl _) _).alloc (by simp) _).alloc (by simp;omega) _).alloc (by simp;omega) _;have hsz:((((w.alloc (.cells #[.slice none 0 0] 157)).alloc (.cells #[.slice none 0 0] 68)).alloc (.cells #[.bool false] 4)).alloc (.cells #[.pointer (some ⟨th,0,none⟩)] 69)).heap.size=w.heap.size+4:=by simp
 obtain⟨W0,hW0⟩:∃ W0,(((w.alloc (.cells #[.slice none 0 0] 157)).alloc (.cells #[.slice none 0 0] 68)).alloc (.cells #[.bool false] 4)).alloc (.cells #[.pointer (some ⟨th,0,none⟩)] 69)=W0:=⟨_,rfl⟩;rw [hW0] at bO bT bF bI b3 hsz ⊢;clear hW0 c3;have hza:os.attach.length=os.length:=List.length_attach
 have hR0:RwsL (fun x:{o:GOw // o∈os}=>slA x.1.lv) (fun x=>slN x.1.lv) (fun x=>slC x.1.lv) (fun x=>⟨x.1.blk,0,none⟩) w.heap.size w rv os.attach:=by
  refine rwsL_own _ _ _ _ (B:=B) (e:=165) _ ?_;have hr:=HX.out.1.rows
  have e1:(os.attach.map fun x:{o:GOw // o∈os}=>((Value.slice (slA x.1.lv) (slN x.1.lv) (slC x.1.lv)),(Value.pointer (some (⟨x.1.blk,0,none⟩:Addr)))))=owRs os:=by
   rw [owRs]
   conv=>rhs;rw [<- List.attach_map_subtype_val os]
   rw [List.map_map];refine List.map_congr_left (fun x _=>?_);simp only [Function.comp,ptr];rw [<- sl_eq (HX.out.2.1 x.1 x.2).row]
  rw [e1];rw [show(owRs os).length=os.attach.length by simp [owRs]] at hr;exact hr
 have kh3:W0.cell? ⟨th,1,none⟩=some rv:=(b3.cell (p:=⟨th,1,none⟩) hth).trans ((blk_cell HX.out.1.head 1).trans rfl)
 refine wpIn_rangeFunc_ownG hro n1 (gf:=119) (lb:=#[.pointer (some ⟨w.heap.size+1+1+1,0,none⟩)]) rfl h4 (enters_of Tryz.func119 (by kernel_rfl) rfl)
  (allStopsL (fun x:{o:GOw // o∈os}=>slA x.1.lv) (fun x=>slN x.1.lv) (fun x=>slC x.1.lv) (fun x=>⟨x.1.blk,0,none⟩) F (n-1) h4 hro (by omega) (w.heap.size+1+1+1) th w.heap.size rv os.attach (by omega) W0 (by omega) hth (by omega) bI.cell kh3 (hR0.below b3)) belowK_t (belowK_b (by omega)) (Below.refl _ _) (fun _=>rfl)
  (fun pre W=>((∃ v,Boxed W w.heap.size 157 v∧W.ownsRow w.heap.size 110 1 v (belK (pre.map (·.1))).2.length ((belK (pre.map (·.1))).2.map fun o=>ptr o.blk)∧True)∧(Boxed W (w.heap.size+1) 68 (tailV (belK (pre.map (·.1))).1)∧Boxed W (w.heap.size+1+1) 4 (.bool (belK (pre.map (·.1))).1.isSome)))∧Below w.heap.size w W)
  (fun _ _ _=>False)
  (OwnFrom.and (OwnFrom.and (Own.from (holdsRow_own w.heap.size w.heap.size 157 110 1 (fun pre:List {o:GOw // o∈os}=>(belK (pre.map (·.1))).2.length) (fun pre=>(belK (pre.map (·.1))).2.map fun o=>ptr o.blk) (fun pre v=>True)) _) (OwnFrom.and (Own.from (boxed_own _ _ (fun pre:List {o:GOw // o∈os}=>tailV (belK (pre.map (·.1))).1)) _) (Own.from (boxed_own _ _ (fun pre:List {o:GOw // o∈os}=>Value.bool (belK (pre.map (·.1))).1.isSome)) _))) (ownFrom_below (Nat.le_refl _) (by omega)))
  (fun _ _ _ _ _ hs _ _=>hs)
  ⟨⟨⟨_,bO,World.ownsRow_nil _ _ _ _,trivial⟩,bT,bF⟩,b3⟩
  (fun x=>{tmps:=#[.pointer (some ⟨bb,oo,none⟩),undef,.slice none 0 0,.pointer (some ⟨w.heap.size,0,none⟩),.pointer (some ⟨w.heap.size+1,0,none⟩),.pointer (some ⟨w.heap.size+1+1,0,none⟩),.slice (slA x.1.lv) (slN x.1.lv) (slC x.1.lv),.pointer (some ⟨x.1.blk,0,none⟩),.pointer (some ⟨bb,oo,none⟩),.pointer (some ⟨bb,oo,none⟩),.pointer (some ⟨bb,oo+1,none⟩),.pointer (some ⟨th,0,none⟩),.func (.func 119) #[] #[.pointer (some ⟨w.heap.size+1+1+1,0,none⟩)],.slice (slA x.1.lv) (slN x.1.lv) (slC x.1.lv),.pointer (some ⟨x.1.blk,0,none⟩),undef,undef,undef,undef,undef,undef,undef,undef,undef,undef,undef,undef,undef,undef,undef,undef],defers:=[]}) ?assign ?body ?done ?stop
 case assign=>
  intro l x W K hK
  gi_wp2
  exact hK
 case body=>
  rintro l pre x W ⟨⟨⟨v,hv,hrow,-⟩,hT,hF⟩,hB⟩ hlt;have eS:belK ((pre++[x]).map (·.1))=belStep (belK (pre.map (·.1))) x.1:=by rw [List.map_append,List.map_cons,List.map_nil,belK_snoc]
  have hln:=belK_len (pre.map (·.1));rw [List.length_map] at hln
  have hmem:∀ q,(belK (pre.map (·.1))).1=some q->q∈os:=fun q hq=>by
   obtain⟨y,_,rfl⟩:=List.mem_map.1 (belK_mem _ q hq);exact y.2
  have n2:1<=n-1-1:=by omega
  have hm:os.attach.length<=maxLen:=by unfold maxLen;omega
  have HE:=Nm.hide eS;clear eS;generalize belK (pre.map (·.1))=ST at hrow hT hF hln hmem HE;obtain⟨t,out⟩:=ST;simp only at hrow hT hF hln hmem
  have HLN:=Nm.hide (And.intro hln hlt);clear hln;have cF:=hF.cell
  cases t with
  |none=>
   simp only [tailV,Option.isSome_none] at hT hF cF;clear hmem
   cases h39:has39 x.1 with
   |true=>
    have hh:=HX.out.2.2.2 x.1 (n-1-1-1) W x.2 hB;rw [h39] at hh;have e9:belK ((pre++[x]).map (·.1))=(some x.1,out):=by rw [HE.out];simp [belStep,h39]
    have HE9:=Nm.hide e9;clear h39 e9 HE
    gi_wp2_with (
     gi_at_call 114
     refine(CallsIn.inRound l hh).mono ?_;rintro e w2 ⟨rfl,b2⟩;have hT2:Boxed w2 _ _ _:=blk_below hT b2;have hF2:Boxed w2 _ _ _:=blk_below hF b2;have hv2:Boxed w2 _ _ _:=blk_below hv b2;have hrow2:=own_below hrow b2;have cT2:=hT2.cell;have fT2:=hT2.frozen;have cF2:=hF2.cell
     have fF2:=hF2.frozen)
    have k2:=(keeps_below b2).trans ((KeepsOthers.setCell w2 ⟨w.heap.size+1,0,none⟩ (.slice (slA x.1.lv) (slN x.1.lv) (slC x.1.lv))).trans (KeepsOthers.setCell _ ⟨w.heap.size+1+1,0,none⟩ (.bool true)));have bb2:=((b2.mono hB.size).setCell (p:=⟨w.heap.size+1,0,none⟩) (by simp) (.slice (slA x.1.lv) (slN x.1.lv) (slC x.1.lv))).setCell (p:=⟨w.heap.size+1+1,0,none⟩) (by simp;omega) (.bool true);refine⟨k2.from _,bb2,?_,hB.trans bb2⟩;rw [HE9.out];have o2:=own_far (i:=0) (y:=.slice (slA x.1.lv) (slN x.1.lv) (slC x.1.lv)) hrow2 (own_nb hrow2 hT2 (by decide));have hF3:=hF2.other (show w.heap.size+1+1≠w.heap.size+1 by omega) (.slice (slA x.1.lv) (slN x.1.lv) (slC x.1.lv));have hv3:=hv2.other (show w.heap.size≠w.heap.size+1 by omega) (.slice (slA x.1.lv) (slN x.1.lv) (slC x.1.lv));have hT3:=hT2.set (.slice (slA x.1.lv) (slN x.1.lv) (slC x.1.lv))
    exact⟨⟨_,hv3.other (by omega) _,own_far o2 (own_nb o2 hF3 (by decide)),trivial⟩,hT3.other (by omega) _,hF3.set _⟩
   |false=>
    have hh:=HX.out.2.2.2 x.1 (n-1-1-1) W x.2 hB;rw [h39] at hh;have e9:belK ((pre++[x]).map (·.1))=(none,out):=by rw [HE.out];simp [belStep,h39]
    have HE9:=Nm.hide e9;clear h39 e9 HE
    gi_wp2_with (
     gi_at_call 114
     refine(CallsIn.inRound l hh).mono ?_;rintro e w2 ⟨rfl,b2⟩;have hT2:Boxed w2 _ _ _:=blk_below hT b2;have hF2:Boxed w2 _ _ _:=blk_below hF b2;have hv2:Boxed w2 _ _ _:=blk_below hv b2
     have hrow2:=own_below hrow b2)
    refine⟨(keeps_below b2).from _,b2.mono hB.size,?_,hB.trans (b2.mono hB.size)⟩;rw [HE9.out]
    exact⟨⟨_,hv2,hrow2,trivial⟩,hT2,hF2⟩
  |some q=>
   simp only [tailV,Option.isSome_some] at hT hF cF;have hq:=hmem q rfl;clear hmem;have cT:=hT.cell
   cases hu:underB x.1.lab q.lab with
   |true=>
    have hh:=HX.out.2.2.1 x.1 q (n-1-1-1) W x.2 hq hB;rw [hu] at hh;have e9:belK ((pre++[x]).map (·.1))=(some q,out++[x.1]):=by rw [HE.out];simp [belStep,hu]
    have HE9:=Nm.hide e9;clear hu e9 HE
    gi_wp2_with (first
     |(gi_at_call 82
       refine(CallsIn.inRound l hh).mono ?_;rintro e w2 ⟨rfl,b2⟩;have hT2:Boxed w2 _ _ _:=blk_below hT b2;have hF2:Boxed w2 _ _ _:=blk_below hF b2;have hv2:Boxed w2 _ _ _:=blk_below hv b2;have hrow2:=own_below hrow b2;have hs2:=b2.size
       have cv2:=hv2.cell)
     |(gi_at_builtin
       refine wpListIn_append_own _ rfl _ _ 157 rfl w.heap.size 110 i0 (.pointer none) 1 8 Tryz.underlying157 hi hz0 hz1 hz2 rfl (by decide) _ _ _ rfl (hrow2.alloc _) ⟨w2.heap.size,0,none⟩ 1 1 [.pointer (some ⟨x.1.blk,0,none⟩)] rfl rfl (cell_one_new _ _ _) (by simp [Value.oneCell']) (by unfold maxLen;have:=HLN.out;omega) (by have:=HLN.out;omega) (by have:=hB.size;simp;omega) ?_;intro v' w3 hown' hgrow _;obtain⟨g',cap',rfl⟩:=ownsRow_succ hown';have hap:=hv2.appended (by decide) hrow2 (by have:=hB.size;omega) (Nat.le_refl _) hown' hgrow;obtain⟨q1,q2,q3,q4,q5⟩:=hap;have cv3:=q1.cell
       have fv3:=q1.frozen))
    have hra:(w2.alloc (.cells #[.pointer (some ⟨x.1.blk,0,none⟩)] 110)).ownsRow w.heap.size 110 1 v out.length (out.map fun o=>ptr o.blk):=hrow2.alloc _;have hT2a:Blk (w2.alloc (.cells #[.pointer (some ⟨x.1.blk,0,none⟩)] 110)) (w.heap.size+1) #[.slice (slA q.lv) (slN q.lv) (slC q.lv)] 68:=blk_alloc hT2 _;have hF2a:Blk (w2.alloc (.cells #[.pointer (some ⟨x.1.blk,0,none⟩)] 110)) (w.heap.size+1+1) #[.bool true] 4:=blk_alloc hF2 _;have hT3:Boxed w3 (w.heap.size+1) 68 (.slice (slA q.lv) (slN q.lv) (slC q.lv)):=blk_grown hT2a hgrow (own_nb hra hT2a (by decide));have hF3:Boxed w3 (w.heap.size+1+1) 4 (.bool true):=blk_grown hF2a hgrow (own_nb hra hF2a (by decide));have kk:=(keeps_below b2).trans q4;have bk:=(b2.mono hB.size).trans q5;refine⟨kk.from _,bk,?_,hB.trans bk⟩;rw [HE9.out]
    exact⟨⟨_,q2,by simpa [ptr] using q3,trivial⟩,hT3.other (by omega) _,hF3.other (by omega) _⟩
   |false=>
    have hh:=HX.out.2.2.1 x.1 q (n-1-1-1) W x.2 hq hB;rw [hu] at hh;have hg:=fun W' (hW:Below w.heap.size w W')=>HX.out.2.2.2 x.1 (n-1-1-1) W' x.2 hW
    cases h39:has39 x.1 with
    |true=>
     rw [h39] at hg;have e9:belK ((pre++[x]).map (·.1))=(some x.1,out):=by rw [HE.out];simp [belStep,hu,h39]
     have HE9:=Nm.hide e9;clear hu h39 e9 HE
     gi_wp2_with (first
      |(gi_at_call 82
        refine(CallsIn.inRound l hh).mono ?_
        rintro e w1 ⟨rfl,b1⟩)
      |(gi_at_call 114
        refine(CallsIn.inRound l (hg _ (hB.trans (b1.mono hB.size)))).mono ?_;rintro e w2 ⟨rfl,b12⟩;have b2:=Nm.below_two b1 b12;have hT2:Boxed w2 _ _ _:=blk_below hT b2;have hF2:Boxed w2 _ _ _:=blk_below hF b2;have hv2:Boxed w2 _ _ _:=blk_below hv b2;have hrow2:=own_below hrow b2;have cT2:=hT2.cell;have fT2:=hT2.frozen;have cF2:=hF2.cell
        have fF2:=hF2.frozen))
     have k2:=(keeps_below b2).trans ((KeepsOthers.setCell w2 ⟨w.heap.size+1,0,none⟩ (.slice (slA x.1.lv) (slN x.1.lv) (slC x.1.lv))).trans (KeepsOthers.setCell _ ⟨w.heap.size+1+1,0,none⟩ (.bool true)));have bb2:=((b2.mono hB.size).setCell (p:=⟨w.heap.size+1,0,none⟩) (by simp) (.slice (slA x.1.lv) (slN x.1.lv) (slC x.1.lv))).setCell (p:=⟨w.heap.size+1+1,0,none⟩) (by simp;omega) (.bool true);refine⟨k2.from _,bb2,?_,hB.trans bb2⟩;rw [HE9.out];have o2:=own_far (i:=0) (y:=.slice (slA x.1.lv) (slN x.1.lv) (slC x.1.lv)) hrow2 (own_nb hrow2 hT2 (by decide));have hF3:=hF2.other (show w.heap.size+1+1≠w.heap.size+1 by omega) (.slice (slA x.1.lv) (slN x.1.lv) (slC x.1.lv));have hv3:=hv2.other (show w.heap.size≠w.heap.size+1 by omega) (.slice (slA x.1.lv) (slN x.1.lv) (slC x.1.lv));have hT3:=hT2.set (.slice (slA x.1.lv) (slN x.1.lv) (slC x.1.lv))
     exact⟨⟨_,hv3.other (by omega) _,own_far o2 (own_nb o2 hF3 (by decide)),trivial⟩,hT3.other (by omega) _,hF3.set _⟩
    |false=>
     rw [h39] at hg;have e9:belK ((pre++[x]).map (·.1))=(some q,out):=by rw [HE.out];simp [belStep,hu,h39]
     have HE9:=Nm.hide e9;clear hu h39 e9 HE
     gi_wp2_with (first
      |(gi_at_call 82
        refine(CallsIn.inRound l hh).mono ?_
        rintro e w1 ⟨rfl,b1⟩)
      |(gi_at_call 114
        refine(CallsIn.inRound l (hg _ (hB.trans (b1.mono hB.size)))).mono ?_;rintro e w2 ⟨rfl,b12⟩;have b2:=Nm.below_two b1 b12;have hT2:Boxed w2 _ _ _:=blk_below hT b2;have hF2:Boxed w2 _ _ _:=blk_below hF b2;have hv2:Boxed w2 _ _ _:=blk_below hv b2
        have hrow2:=own_below hrow b2))
     refine⟨(keeps_below b2).from _,b2.mono hB.size,?_,hB.trans (b2.mono hB.size)⟩;rw [HE9.out];exact⟨⟨_,hv2,hrow2,trivial⟩,hT2,hF2⟩
 case done=>
  rintro D ys W hD rfl ⟨⟨⟨v,hv,hrow,-⟩,hT,hF⟩,hB⟩ hK;rw [List.attach_map_subtype_val] at hrow;have hc:=hv.cell
  gi_wp2
  refine⟨by simp,.inl ⟨_,_,rfl,run_takeDeferred hK,?_⟩⟩;exact⟨_,results_tmp rfl _ _ _,v,rfl,ownsRow_putObj hrow _ hK rfl,hB.trans (belowK_b (w:=w) (Nat.le_refl _) W D _ _ (by omega) hK rfl rfl)⟩
 case stop=>
  rintro D c pre W _ _ h _;exact h.elim
theorem belowTails_any(bb oo th:Nat)(rv:Value)(os:List GOw)(B:Nat)(w:World)(h:TrAt w B th rv os)(hd:TrS os)(hl:os.length<=400000)(hLab:LabAt w (fpT th rv os) os)(hc:w.cell? ⟨bb,oo+1,none⟩=some (ptr th)):
 Calls Tryz.prog 115 #[.pointer (some ⟨bb,oo,none⟩)] w fun e W'=>∃ v,e=.returned v∧W'.ownsRow w.heap.size 110 1 v (belK os).2.length ((belK os).2.map fun o=>ptr o.blk)∧Below w.heap.size w W':=
 (callsIn_wide (n:=6)).1 (belowTails_in Fence.wide 6 trivial trivial trivial trivial trivial rfl (by omega) bb oo th rv os B w h hl hLab hc
  (fun o q m W ho hq hW=>callsIn_wide.2 (by
   have lo:=hLab o ho;have lq:=hLab q hq;have hu:=under_any o.lv q.lv o.lab q.lab W (lo.row.below hW) (lq.row.below hW) lo.fit.1 lo.fit.2 lq.fit.2;rw [sl_eq lo.row,sl_eq lq.row] at hu;refine hu.mono ?_;rintro e w' ⟨rfl,m',rfl⟩
   exact⟨rfl,Go.below_drewN (Below.refl _ _) _⟩))
  (fun o m W ho hW=>callsIn_wide.2 (ownerHas_any o B 39 W ((h.owners o ho).below hW) (by have:=(hd.2 o ho).2.1;omega) (hd.2 o ho).1)))
end Go.Proofs.YtaceiajcecaapaaGreat
namespace Go.Proofs.YtaceiajcecaapaaGreat
open Go.RowKit
set_option linter.unusedVariables false
def recC(r:Rr)(xs ys:List ByteArray):Int:=
 if r.cl≠1 then 19 else if(decide (0<=r.tt)&&decide (r.tt<=2147483647))=false then 18
 else if(decide (0<=r.ty)&&decide (r.ty<=65535))=false then 6 else if metaB r.ty=true then 6 else if cutCode r.ty r.da≠0 then 7 else if underB xs ys=false then 22 else 0
set_option maxRecDepth 100000 in
set_option maxHeartbeats 1600000 in
theorem checkRecord_any(r:Rr)(bb:Nat)(v u:Value)(xs ys:List ByteArray)(w:World)(hd:r.da.size<=2000000)(hv:Nm.SRow w v xs)(hu:Nm.SRow w u ys)(hk:w.cell? ⟨bb,3,none⟩=some u)(hxs:∀ x∈xs,x.size<=1000000000)(hlx:xs.length<=1000000000)(hly:ys.length<=1000000000):
 Calls Tryz.prog 105 #[.pointer (some ⟨bb,0,none⟩),.agg #[.string r.own,.int .i64 r.ty,.int .i64 r.cl,.int .i64 r.tt,.string r.da],v] w fun e w'=>e=.returned (.int .i64 (recC r xs ys))∧Below w.heap.size w w':=by
 have hB0:=(Below.refl w.heap.size w).alloc (Nat.le_refl _) (.cells #[.string r.own,.int .i64 r.ty,.int .i64 r.cl,.int .i64 r.tt,.string r.da] 47);have hR0:=RB.new w r 47;have h1:=fun W=>within_any r.tt 2147483647 W
 have h2:=fun W=>within_any r.ty 65535 W
 have h3:=fun W=>isMeta_any r.ty W
 have h4:=fun W=>implCheckData_any r.ty r.da W hd
 have h5:=fun W (hW:Below w.heap.size w W)=>under_any v u xs ys W (hv.below hW) (hu.below hW) hxs hlx hly
 have hkk:=fun W (hW:Below w.heap.size w W)=>(hW.cell (p:=⟨bb,3,none⟩) (World.block_lt_of_cell? w _ hk)).trans hk
 have ev:=hv;obtain⟨va,vc,rfl,_⟩:=ev;have eu:=hu;obtain⟨ua,uc,rfl,_⟩:=eu;obtain⟨Q,hQ⟩:∃ Q,Q=recC r xs ys:=⟨_,rfl⟩;rw [<- hQ];unfold recC at hQ;generalize cutCode r.ty r.da=CC at*;generalize underB xs ys=UB at*;generalize (decide (0<=r.tt)&&decide (r.tt<=2147483647))=TT at*;generalize (decide (0<=r.ty)&&decide (r.ty<=65535))=TY at*;have hmb:∀ b,metaB r.ty=b->True:=fun _ _=>trivial
 generalize metaB r.ty=MB at*;clear hmb hv hu hk;obtain⟨o,ty,cl,tt,da⟩:=r;simp only [RB] at*;obtain⟨c0,c1,c2,c3,c4⟩:=hR0
 by_cases hcl:cl=1
 ·rw [if_neg (by simpa using hcl)] at hQ;subst hcl;have ncl:((1:Int) != 1)=false:=rfl
  cases TT with
  |false=>
   simp only [if_true] at hQ;subst hQ;clear h2 h3 h4 h5 hkk;go_enter Tryz.func105,Tryz.ntmps105;go_wp2_with fail
   refine(h1 _).mono ?_;rintro e w1 ⟨rfl,rfl⟩;go_wp2;go_ret
   exact⟨rfl,hB0⟩
  |true=>
   simp only [Bool.true_eq_false,if_false] at hQ
   cases TY with
   |false=>
    simp only [if_true] at hQ;subst hQ;clear h3 h4 h5 hkk;go_enter Tryz.func105,Tryz.ntmps105;go_wp2_with fail
    refine(h1 _).mono ?_;rintro e w1 ⟨rfl,rfl⟩;go_wp2_with fail
    refine(h2 _).mono ?_;rintro e w1 ⟨rfl,rfl⟩;go_wp2;go_ret
    exact⟨rfl,hB0⟩
   |true=>
    simp only [Bool.true_eq_false,if_false] at hQ
    cases MB with
    |true=>
     simp only [if_true] at hQ;subst hQ;clear h4 h5 hkk;go_enter Tryz.func105,Tryz.ntmps105;go_wp2_with fail
     refine(h1 _).mono ?_;rintro e w1 ⟨rfl,rfl⟩;go_wp2_with fail
     refine(h2 _).mono ?_;rintro e w1 ⟨rfl,rfl⟩;go_wp2_with fail
     refine(h3 _).mono ?_;rintro e w1 ⟨rfl,rfl⟩;go_wp2;go_ret
     exact⟨rfl,hB0⟩
    |false=>
     simp only [Bool.false_eq_true,if_false] at hQ
     by_cases hcc:CC=0
     ·rw [if_neg (by simpa using hcc)] at hQ;subst hcc;have HQ:=Nm.hide hQ;clear hQ;go_enter Tryz.func105,Tryz.ntmps105;go_wp2_with fail
      refine(h1 _).mono ?_;rintro e w1 ⟨rfl,rfl⟩;go_wp2_with fail
      refine(h2 _).mono ?_;rintro e w1 ⟨rfl,rfl⟩;go_wp2_with fail
      refine(h3 _).mono ?_;rintro e w1 ⟨rfl,rfl⟩;go_wp2_with fail
      refine(h4 _).mono ?_;rintro e w2 ⟨rfl,b2⟩;have hb2:=Nm.below_two hB0 b2;have k2:=hkk w2 hb2;clear hkk;go_wp2_with fail
      refine(h5 _ hb2).mono ?_;rintro e w3 ⟨rfl,m,rfl⟩
      cases UB with
      |true=>
       go_wp2;go_ret
       exact⟨by rw [HQ.out];rfl,Go.below_drewN hb2 _⟩
      |false=>
       go_wp2;go_ret;exact⟨by rw [HQ.out];rfl,Go.below_drewN hb2 _⟩
     ·rw [if_pos (by simpa using hcc)] at hQ;subst hQ;have ncc:(CC != 0)=true:=by simpa using hcc
      clear h5 hkk;go_enter Tryz.func105,Tryz.ntmps105;go_wp2_with fail
      refine(h1 _).mono ?_;rintro e w1 ⟨rfl,rfl⟩;go_wp2_with fail
      refine(h2 _).mono ?_;rintro e w1 ⟨rfl,rfl⟩;go_wp2_with fail
      refine(h3 _).mono ?_;rintro e w1 ⟨rfl,rfl⟩;go_wp2_with fail
      refine(h4 _).mono ?_;rintro e w2 ⟨rfl,b2⟩;go_wp2;go_ret;exact⟨rfl,Nm.below_two hB0 b2⟩
 ·rw [if_pos (by simpa using hcl)] at hQ;subst hQ;have ncl:(cl != 1)=true:=by simpa using hcl
  clear h1 h2 h3 h4 h5 hkk;go_enter Tryz.func105,Tryz.ntmps105;go_wp2;go_ret;exact⟨rfl,hB0⟩
theorem TInv.nm{l:List It}{os:List GOw}(h:TInv l os)(hl:∀ y∈l,GoodI y){o:GOw}(ho:o∈os):Nm.split o.nm=some o.lab:=by
 obtain⟨i,x,hF,h1,h2⟩:=h.own o ho;rw [h1,h2];exact(hl x hF.mem).1
set_option maxRecDepth 100000 in
set_option maxHeartbeats 1600000 in
theorem isOwnData_any(t:Int)(d:ByteArray)(w:World)(hd:d.size<=1048576):
 Calls Tryz.prog 83 #[.int .i64 t,.string d] w fun e w'=>e=.returned (.bool (ownB t d))∧Below w.heap.size w w':=by
 have hme:=fun W=>isMeta_any t W
 have hck:=fun W=>implCheckData_any t d W (by omega)
 have HM:Hid (ownB t d=(!metaB t&&(cutCode t d==0))):=rfl;generalize ownB t d=M at*;generalize metaB t=T at*;generalize cutCode t d=C at*
 cases T with
 |true=>
  obtain rfl:M=false:=by rw [HM.out];simp
  go_enter Tryz.func83,Tryz.ntmps83;go_wp2_with (go_at_call 127;refine(hme _).mono ?_;rintro e wf ⟨rfl,hw⟩;obtain rfl:=hw.symm;clear hw)
  go_ret
  exact⟨rfl,Below.refl _ _⟩
 |false=>
  obtain rfl:M=(C==0):=by rw [HM.out];simp
  go_enter Tryz.func83,Tryz.ntmps83;go_wp2_with (first|(go_at_call 127;refine(hme _).mono ?_;rintro e wf ⟨rfl,hw⟩;obtain rfl:=hw.symm;clear hw)|(go_at_call 126;refine(hck _).mono ?_;rintro e w1 ⟨rfl,hb1⟩))
  go_ret;exact⟨rfl,hb1⟩
set_option maxRecDepth 100000 in
set_option maxHeartbeats 1600000 in
set_option maxRecDepth 100000 in
set_option maxHeartbeats 1600000 in
theorem isSound_any(v:Value)(xs:List Rr)(w:World)(h:CRow w v xs.length 5 (rvVs xs))(hx:∀ r∈xs,r.own.size<=1048576∧r.da.size<=1048576):
 Calls Tryz.prog 20 #[v] w fun e w'=>e=.returned (.bool (listB xs))∧Below w.heap.size w w':=by
 have hs:=validRecords_any v xs w h hx;obtain⟨_,a,cap,rfl,hcap,hmx,_⟩:=h
 by_cases hl:xs.length<=400
 ·have hl':(xs.length:Int)<=400:=by omega
  have HL:Hid (listB xs=xs.all rcOK):=by show _=_;simp [listB,hl]
  generalize xs.all rcOK=B at*;go_enter Tryz.func20,Tryz.ntmps20;go_wp2_with fail
  refine hs.mono ?_;rintro e w1 ⟨rfl,hb1⟩;go_wp2;go_ret;rw [HL.out];exact⟨rfl,hb1⟩
 ·have hl':¬(xs.length:Int)<=400:=by omega
  have HL:Hid (listB xs=false):=by show _=_;simp [listB,hl]
  go_enter Tryz.func20,Tryz.ntmps20;go_wp2;go_ret;rw [HL.out];exact⟨rfl,Below.refl _ _⟩
end Go.Proofs.YtaceiajcecaapaaGreat
