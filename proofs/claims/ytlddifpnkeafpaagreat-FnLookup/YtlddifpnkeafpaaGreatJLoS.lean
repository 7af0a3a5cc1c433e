import Derived.Test.YtlddifpnkeafpaaGreatJLoM
import Derived.Test.YtlddifpnkeafpaaGreatJCzO
set_option linter.unusedVariables false
set_option maxRecDepth 100000
set_option maxHeartbeats 4000000
namespace Go.Proofs.YtlddifpnkeafpaaGreat
variable {B g:Nat}{ps:List Zp}{v:Value}{w:World}
section
open Go.RowKit Go.Shelf
attribute [local go_sem] Oper.semAt_some
def Sst(B Ob:Nat)(W:World)(ss:List Sz):Prop:=∃ v ps,bW W Ob #[v] 23∧ps.map (·.1)=ss∧dF W B v ps
theorem aJs{β:Type}(B Ob:Nat)(f:β->List Sz):Own (fun s W=>Sst B Ob W (f s)):=by
 rintro s X Y row ⟨v,ps,h1,h3,h4⟩ hg dI;refine⟨v,ps,aO h1 hg (fun e=>qO h1 (dI Ob e) rfl),h3,h4.beside hg (fun g e=>qN h4.outer (dI g e)) (fun g e p hp=>?_)⟩;obtain⟨i,hi⟩:=List.getElem?_of_mem hp;exact qN (h4.inner i p hi) (dI g e)
theorem Vq{N b:Nat}{cs:Array Value}{T:TypeId}{β:Type}:OwnFrom N (fun(_:β) W=>bW W b cs T):=fun _ X Y row hs hg hr=>aO hs hg (fun e=>qO hs (hr b e).2 rfl)
theorem aGz{Ob:Nat}{W w1:World}{tmp:Obj}{v' u:Value}{s:Sz}(h1:bW W Ob #[v] 23)(h4:dF W B v ps)(hB:B<=Ob)(La:B<=W.heap.size)
 (hu:W.ownsRow B 9 1 u s.da.length (s.da.map Value.string)) (ha:∀ p∈ps,∀ g,p.2.ownBlock=some g->u.ownBlock≠some g)
 (ho:w1.ownsRow B 42 4 v' (ps.length+1) (lG ps++YR (s,u))) (hg:(W.alloc tmp).grownBy w1 v.ownBlock):
 bW w1 Ob #[v] 23∧Sst B Ob (w1.setCell ⟨Ob,0,none⟩ v') (ps.map (·.1)++[s])∧KeepsOthers W (w1.setCell ⟨Ob,0,none⟩ v')∧Below B W (w1.setCell ⟨Ob,0,none⟩ v')∧∀ b cs T,bW W b cs T->42≠T->b≠Ob->bW (w1.setCell ⟨Ob,0,none⟩ v') b cs T:=by
 have Lb:Below W.heap.size W (W.alloc tmp):=(aJ _ W).alloc (aI _) tmp;have ZG:=aB h1 Lb;have Mt:=h4.below Lb;have hu':=own_below hu Lb;have k1:bW w1 Ob #[v] 23:=aO ZG hg (fun e=>dD Mt.outer ZG (by decide) e);have z:=Mt.snoc hu' ha ho hg;have e1:=aM k1 0 v';simp only [List.setIfInBounds_toArray,List.set_cons_zero] at e1;have Wi:=oZ w1 Ob 0 v';refine⟨k1,⟨v',ps++[(s,u)],e1,by simp,?_⟩,?_,?_,fun b cs T hb hT yZ=>?_⟩
 ·refine z.beside Wi (fun g e=>by cases e;exact dD z.outer k1 (by decide)) fun g e p hp=>?_;cases e
  obtain⟨i,hi⟩:=List.getElem?_of_mem hp;exact dD (z.inner i p hi) k1 (by decide)
 ·refine((KeepsOthers.alloc W tmp).trans (KeepsOthers.of_grownBy hg fun j o ej hj=>?_)).trans (KeepsOthers.of_grownBy Wi fun j o ej hj=>?_)
  ·cases ho:o.isCells with
   |true=>rfl
   |false=>exact absurd ej (qN Mt.outer ⟨o,hj,ho⟩)
  cases ho:o.isCells with
  |true=>rfl
  |false=>cases ej;exact absurd rfl (qO k1 ⟨o,hj,ho⟩)
 ·refine((((aJ B W).alloc La tmp).grown hg (by simp;omega) fun j ej=>?_)).setCell (p:=⟨Ob,0,none⟩) hB v';exact(Mt.outer.lt j ej).1
 exact aO (aO (aB hb Lb) hg (fun e=>dD Mt.outer (aB hb Lb) hT e)) Wi (fun e=>by cases e;exact yZ rfl)
def isQ(q t:Int):Bool:=decide (q=t)||decide (q=255)
theorem I8(F:Fence)(n:Nat)(h1:F.fn 55)(h5:F.fn 96)(h6:F.fn 131)(h7:F.fn 72)(sJ:F.round=none)(hn:9<=n)
 (c:dG) (q:Int) (B:Nat) (w:World) (ow:yB w B c) (hl:c.ss.length<=400000)
 (Ez:∀ (s:nY) (m:Nat) (W:World),s∈c.ss->Below w.heap.size w W->CallsIn F m Tryz.prog 72 #[.pointer (some ⟨c.dS,0,none⟩),.int .i64 s.ty] W fun e w'=>∃ v,e=.returned (.tuple #[.agg #[.string c.nm,.int .i64 s.ty,.int .i64 s.tt,v],.bool true])∧w'.ownsRow W.heap.size 9 1 v s.da.length (s.da.map fun p=>.string p.2)∧Below W.heap.size W w'):
 CallsIn F n Tryz.prog 55 #[.pointer (some ⟨c.dS,0,none⟩),.int .i64 q] w fun e W'=>∃ v ps,e=.returned v∧ps.map (·.1)=tZ c q∧dF W' w.heap.size v ps∧Below w.heap.size w W':=by
 obtain⟨i0,hi,iQ,iH,iI⟩:=info_parts Tryz.XG;refine callsIn_of_wp_marks Tryz.func55 rfl h1 ?_ sJ;simp only [Tryz.ntmps55,List.size_toArray,List.length_cons,List.length_nil,Nat.reduceAdd,Nat.reduceSub,Array.replicate_succ,Array.replicate_zero,List.push_toArray,List.append_toArray,List.nil_append,List.cons_append];have b3:=(((aJ w.heap.size w).alloc (aI _) (.cells #[.pointer (some ⟨c.dS,0,none⟩)] 103)).alloc (by simp) (.cells #[.int .i64 q] 2)).alloc (by simp;omega) (.cells #[.slice none 0 0] 23);have kA:=bD (bD (aK w #[.pointer (some ⟨c.dS,0,none⟩)] 103) (.cells #[.int .i64 q] 2)) (.cells #[.slice none 0 0] 23);have kQ:=bD (aK (w.alloc (.cells #[.pointer (some ⟨c.dS,0,none⟩)] 103)) #[.int .i64 q] 2) (.cells #[.slice none 0 0] 23);have kO:=aK ((w.alloc (.cells #[.pointer (some ⟨c.dS,0,none⟩)] 103)).alloc (.cells #[.int .i64 q] 2)) #[.slice none 0 0] 23;rw [jO] at kQ;rw [jO,jO] at kO;obtain⟨W3,hW3⟩:∃ W3,((w.alloc (.cells #[.pointer (some ⟨c.dS,0,none⟩)] 103)).alloc (.cells #[.int .i64 q] 2)).alloc (.cells #[.slice none 0 0] 23)=W3:=⟨_,rfl⟩;have s3:W3.heap.size=w.heap.size+3:=by rw [<- hW3];simp
 rw [hW3] at b3 kA kQ kO;have c3:W3.cell? ⟨c.dS,2,none⟩=some (.pointer (some ⟨c.hd,0,none⟩)):=(b3.cell (p:=⟨c.dS,2,none⟩) (cO ow.node)).trans ((aA ow.node 2).trans rfl);have c0:W3.cell? ⟨w.heap.size,0,none⟩=some (.pointer (some ⟨c.dS,0,none⟩)):=(aA kA 0).trans rfl;have n1:1<=n:=by omega
 have HX:=Nm.aD (aV ow Ez);clear Ez
 gi_wp2_with (gi_at_call 96;refine(Jt F (n-1) h5 sJ _ _).mono ?_;rintro e w' ⟨rfl,rfl⟩)
 clear c3 c0;have b4:=b3.alloc b3.size (.cells #[.pointer (some ⟨c.hd,0,none⟩)] 126);have kA4:=bD kA (.cells #[.pointer (some ⟨c.hd,0,none⟩)] 126);have kQ4:=bD kQ (.cells #[.pointer (some ⟨c.hd,0,none⟩)] 126);have kO4:=bD kO (.cells #[.pointer (some ⟨c.hd,0,none⟩)] 126);have kT4:=aK W3 #[.pointer (some ⟨c.hd,0,none⟩)] 126;obtain⟨W0,FH⟩:∃ W0,W3.alloc (.cells #[.pointer (some ⟨c.hd,0,none⟩)] 126)=W0:=⟨_,rfl⟩;have s0:W0.heap.size=w.heap.size+4:=by rw [<- FH];simp;omega
 rw [s3] at kT4;rw [FH] at b4 kA4 kQ4 kO4 kT4 ⊢;clear FH hW3 b3 kA kQ kO
 have Em:Js (fun s:{s:nY // s∈c.ss}=>s.1.ty) (fun s=>⟨s.1.dS,0,none⟩) w.heap.size w c.rv c.ss.attach:=by
  refine ZU _ _ (B:=B) (e:=195) _ ?_;have hr:=ow.rows
  have e1:(c.ss.attach.map fun s:{s:nY // s∈c.ss}=>((Value.int .i64 s.1.ty),(Value.pointer (some (⟨s.1.dS,0,none⟩:Addr)))))=lQ c.ss:=by
   rw [lQ]
   conv=>rhs;rw [<- List.attach_map_subtype_val c.ss]
   rw [List.map_map];rfl
  rw [e1];rw [show(lQ c.ss).length=c.ss.attach.length by simp [lQ]] at hr;exact hr
 have Eh:c.ss.attach.length=c.ss.length:=List.length_attach;have khI:W0.cell? ⟨c.hd,1,none⟩=some c.rv:=(b4.cell (p:=⟨c.hd,1,none⟩) (cO ow.head)).trans ((aA ow.head 1).trans rfl);have hhd:=cO ow.head;clear ow
 refine wpIn_rangeFunc_ownG sJ n1 (gf:=131) (lb:=#[.pointer (some ⟨w.heap.size+3,0,none⟩)]) rfl h6 (enters_of Tryz.func131 (by kernel_rfl) rfl)
  (SS (fun s:{s:nY // s∈c.ss}=>s.1.ty) (fun s=>⟨s.1.dS,0,none⟩) F (n-1) h6 sJ (by omega) (w.heap.size+3) c.hd w.heap.size c.rv c.ss.attach (by omega) _ (by omega) hhd (by omega) ((aA kT4 0).trans rfl) khI (Em.below b4)) belowK_t (belowK_b (by omega)) (aJ _ _) (fun _=>rfl)
  (fun pre W=>((Sst w.heap.size (w.heap.size+2) W ((pre.filter fun s=>isQ q s.1.ty).map fun s=>mO (c,s.1))∧bW W w.heap.size #[.pointer (some ⟨c.dS,0,none⟩)] 103)∧bW W (w.heap.size+1) #[.int .i64 q] 2)∧Below w.heap.size w W)
  (fun _ _ _=>False)
  (OwnFrom.and (OwnFrom.and (OwnFrom.and (Own.from (aJs _ _ (fun pre:List {s:nY // s∈c.ss}=>(pre.filter fun s=>isQ q s.1.ty).map fun s=>mO (c,s.1))) _) Vq) Vq) (ownFrom_below (aI _) (by omega)))
  (fun _ _ _ _ _ hs _ _=>hs)
  ⟨⟨⟨⟨_,[],kO4,rfl,dF.nil _ _⟩,kA4⟩,kQ4⟩,b4⟩
  (fun x=>{tmps:=#[.pointer (some ⟨c.dS,0,none⟩),.int .i64 q,.pointer (some ⟨w.heap.size,0,none⟩),.pointer (some ⟨w.heap.size+1,0,none⟩),.slice none 0 0,.pointer (some ⟨w.heap.size+2,0,none⟩),.int .i64 x.1.ty,undef,undef,.pointer (some ⟨c.dS,0,none⟩),.pointer (some ⟨c.dS,0,none⟩),.pointer (some ⟨c.dS,2,none⟩),.pointer (some ⟨c.hd,0,none⟩),.func (.func 131) #[] #[.pointer (some ⟨w.heap.size+3,0,none⟩)],.int .i64 x.1.ty,.pointer (some ⟨x.1.dS,0,none⟩),undef,undef,undef,undef,undef,undef,undef,undef,undef,undef,undef,undef,undef,undef,undef,undef,undef,undef],defers:=[]}) ?assign ?body ?done ?stop
 case assign=>
  intro l x W K hK
  gi_wp2
  exact hK
 case body=>
  rintro l pre x W ⟨⟨⟨iI,kA⟩,kQ⟩,hB⟩ bY;have cA:=(aA kA 0).trans rfl;have cQ:=(aA kQ 0).trans rfl;have aFe:=hB.size
  by_cases hq:isQ q x.1.ty=true
  ·obtain⟨v,ps,k1,e3,z4⟩:=iI;obtain⟨va,vc,rfl⟩:=aT z4.outer;have mI:=HX.out.2 x.1 (n-1-1-1) W x.2 hB
   have RG:ps.length<=400000:=by
    have h1:=congrArg List.length e3;simp only [List.length_map] at h1;have h2:=List.length_filter_le (fun s:{s:nY // s∈c.ss}=>isQ q s.1.ty) pre;omega
   have HQ:=Nm.aD (aV e3 (aV hB bY));have HP:Hid (bW W w.heap.size #[.pointer (some ⟨c.dS,0,none⟩)] 103∧bW W (w.heap.size+1) #[.int .i64 q] 2):=⟨kA,kQ⟩;clear e3 bY Em Eh khI;have n3:1<=n-1-1:=by omega
   have uB:(q==x.1.ty)=true∨((q==x.1.ty)=false∧(q==255)=true):=by
    rw [isQ,Bool.or_eq_true,decide_eq_true_eq,decide_eq_true_eq] at hq
    by_cases e:q=x.1.ty
    ·exact .inl (by simpa using e)
    rcases hq with h|h
    ·exact absurd h e
    exact .inr ⟨by simpa using e,by simpa using h⟩
   rcases uB with uB|⟨uB,zT⟩
   all_goals
    gi_wp2_with (first
     |(gi_at_call 72
       refine(CallsIn.inRound l mI).mono ?_;rintro e w4 ⟨u,rfl,hu,b4⟩;obtain⟨ua,uc,rfl⟩:=aT hu;have b5:=b4.alloc b4.size (.cells #[.string c.nm,.int .i64 x.1.ty,.int .i64 x.1.tt,.slice ua x.1.da.length uc] 42);have b6:Below W.heap.size W ((w4.alloc (.cells #[.string c.nm,.int .i64 x.1.ty,.int .i64 x.1.tt,.slice ua x.1.da.length uc] 42)).alloc (.cells #[.string c.nm,.int .i64 x.1.ty,.int .i64 x.1.tt,.slice ua x.1.da.length uc] 42)):=b5.alloc b5.size _;have c5:=(aA (aB k1 b5) 0).trans rfl;have z6:=(z4.below b6).outer
       have hu5:(w4.alloc (.cells #[.string c.nm,.int .i64 x.1.ty,.int .i64 x.1.tt,.slice ua x.1.da.length uc] 42)).ownsRow w.heap.size 9 1 (.slice ua x.1.da.length uc) (mO (c,x.1)).da.length ((mO (c,x.1)).da.map Value.string):=by
        have h9:=fM (own_below hu ((aJ _ w4).alloc (aI _) (.cells #[.string c.nm,.int .i64 x.1.ty,.int .i64 x.1.tt,.slice ua x.1.da.length uc] 42))) aFe;simpa [mO,List.map_map,Function.comp_def] using h9
       have xZ:∀ p∈ps,∀ g,p.2.ownBlock=some g->(Value.slice ua x.1.da.length uc).ownBlock≠some g:=fun p hp g e e'=>by
        obtain⟨i,hi⟩:=List.getElem?_of_mem hp;have h8:=((z4.inner i p hi).lt g e).2;have h9:=(hu.lt g e').1;omega
       have HU:=Nm.aD (aV hu5 xZ)
       clear hu5 xZ hu b4)
     |(gi_at_builtin
       refine wpListIn_append_own _ rfl _ _ 23 rfl w.heap.size 42 i0 (.agg #[.string ByteArray.empty,.int .i64 0,.int .i64 0,.slice none 0 0]) 4 56 Tryz.underlying23 hi iQ iH iI rfl (by decide) _ _ _ rfl z6 ⟨w4.heap.size+1,0,none⟩ 1 1 [.string c.nm,.int .i64 x.1.ty,.int .i64 x.1.tt,.slice ua x.1.da.length uc] rfl rfl (by have h9:=eZ (w4.alloc (.cells #[.string c.nm,.int .i64 x.1.ty,.int .i64 x.1.tt,.slice ua x.1.da.length uc] 42)) #[.string c.nm,.int .i64 x.1.ty,.int .i64 x.1.tt,.slice ua x.1.da.length uc] 42;rw [jO] at h9;exact h9) (by intro u hu;simp at hu;rcases hu with rfl|rfl|rfl|rfl<;>rfl) (by unfold maxLen;omega) (by omega) (by have:=b6.size;omega) ?_;intro v' w7 dE bU _;obtain⟨g',cap',rfl⟩:=ownsRow_succ dE;have zm:=aGz (s:=mO (c,x.1)) (aB k1 b5) (z4.below b5) (by omega) (by have:=b5.size;omega) HU.out.1 HU.out.2 dE bU;obtain⟨q1,q2,q3,q4,q5⟩:=zm;have c7:=aA q1
       have f7:=aF q1))
    obtain⟨e3,La,-⟩:=HQ.out;have hKb:=(jY b5).trans q3;have hBb:=(b5.mono aFe).trans q4;refine⟨hKb.from _,hBb,⟨⟨?_,q5 _ _ _ (aB HP.out.1 b5) (by decide) (by omega)⟩,q5 _ _ _ (aB HP.out.2 b5) (by decide) (by omega)⟩,La.trans hBb⟩;rw [e3] at q2;rw [List.filter_append,List.map_append,List.filter_cons,if_pos hq];exact q2
  have Vy:(q==x.1.ty)=false∧(q==255)=false:=by
   rw [isQ,Bool.or_eq_true,decide_eq_true_eq,decide_eq_true_eq] at hq;exact⟨by simp;exact fun h=>hq (.inl h),by simp;exact fun h=>hq (.inr h)⟩
  obtain⟨uB,zT⟩:=Vy
  gi_wp2
  refine⟨KeepsFrom.refl _ _,aJ _ _,⟨⟨?_,kA⟩,kQ⟩,hB⟩;rw [List.filter_append,List.map_append,List.filter_cons,if_neg hq];simpa using iI
 case done=>
  rintro D zs W hD rfl ⟨⟨⟨iI,kA⟩,kQ⟩,hB⟩ hK;obtain⟨v,ps,k1,e3,z4⟩:=iI;obtain⟨va,vc,rfl⟩:=aT z4.outer;have c1:=(aA k1 0).trans rfl
  gi_wp2
  refine⟨by simp,.inl ⟨_,_,rfl,run_takeDeferred hK,?_⟩⟩;refine⟨_,results_tmp rfl _ _ _,.slice va ps.length vc,ps,rfl,?_,?_,hB.trans (belowK_b (w:=w) (aI _) W D _ _ (by omega) hK rfl rfl)⟩
  ·rw [e3,tZ]
   conv=>rhs;rw [<- List.attach_map_subtype_val c.ss]
   rw [List.filter_map,List.map_map];rfl
  exact z4.beside (grownBy_putObj' W D _) (fun g e=>by cases e;exact qN z4.outer ⟨_,hK,rfl⟩) (fun g e p hp=>by
   cases e
   obtain⟨i,hi⟩:=List.getElem?_of_mem hp
   exact qN (z4.inner i p hi) ⟨_,hK,rfl⟩)
 rintro D c pre W _ _ h _;exact h.elim
theorem VV(c:dG)(q:Int)(B:Nat)(w:World)(ow:yB w B c)(hl:c.ss.length<=400000)(hd:VE c.ss)(hsl:∀ s∈c.ss,s.da.length<=1000000):
 Calls Tryz.prog 55 #[.pointer (some ⟨c.dS,0,none⟩),.int .i64 q] w fun e W'=>∃ v ps,e=.returned v∧ps.map (·.1)=tZ c q∧dF W' w.heap.size v ps∧Below w.heap.size w W':=
 (callsIn_wide (n:=9)).1 (I8 Fence.wide 9 trivial trivial trivial trivial rfl (by omega) c q B w ow hl
  (fun s m W hs hW=>callsIn_wide.2 (wX c s B W (ow.below hW) (by omega) hd hs (hsl s hs))))
end
open Go.RowKit
def SoP(s:Stp)(w:World)(e:Ending)(w':World):Prop:=∃ v ps,e=.returned (.agg #[.int .i64 s.kd,v,.bool s.wild,.string s.tgt])∧List.map (·.1) ps=s.ss∧dF w' w.heap.size v ps∧Below w.heap.size w w'
abbrev QY(k:Int)(v:Value)(b:Bool)(t:ByteArray):List Value:=[.int .i64 k,v,.bool b,.string t]
theorem vB(hg:B<=g):∀ (vs:List Value) (i:Nat) (W:World),Below B w W->Below B w (bG W g i vs)
 |[],_,_,h=>h
 |y::vs,i,W,h=>vB hg vs (i+1) _ (h.setCell hg _)
theorem dF.set4(hg:g<B):∀ (vs:List Value) (i:Nat) (W:World),dF W B v ps->dF (bG W g i vs) B v ps
 |[],_,_,h=>h
 |y::vs,i,W,h=>dF.set4 hg vs (i+1) _ (h.far hg)
theorem kD{W:World}{k:Int}{b:Bool}{t:ByteArray}{old:Array Value}(hk:bW W g old 29)(hs:old.size=4)(z:dF W B v ps)(hgB:g<B)(hwg:w.heap.size<=g)(hb:Below w.heap.size w W):
 bW (bG W g 0 (QY k v b t)) g (QY k v b t).toArray 29∧dF (bG W g 0 (QY k v b t)) w.heap.size v ps∧Below w.heap.size w (bG W g 0 (QY k v b t)):=
 ⟨dH _ hk (by rw [hs];rfl),(dF.set4 hgB _ 0 _ z).base (by omega),vB hwg _ 0 _ hb⟩
abbrev yU:Array Value:=#[.int .i64 0,.slice none 0 0,.bool false,.string ⟨#[]⟩]
theorem I9(bb oo th:Nat)(rv:Value)(os:List dG)(B:Nat)(na:Option Addr)(nl nc:Nat)(lab:List ByteArray)(q:Int)(w:World)(h:nQ w B th rv os)(hl:os.length<=500000)(hd:Yk os)(jD:mU w (jF th rv os) os)(hn:Nm.bP w (.slice na nl nc) lab)(FC:lab.length<=1000)(hc:w.cell? ⟨bb,oo+1,none⟩=some (ptr th))(zH:bb<w.heap.size)(dM:∀ c∈os,∀ s∈c.ss,0<s.da.length∧(MU (mO (c,s)).da).size<=1000000000):
 Calls Tryz.prog 57 #[.pointer (some ⟨bb,oo,none⟩),.slice na nl nc,.int .i64 q] w (SoP (H6 os lab q) w):=by
 have b0:=(aJ w.heap.size w).alloc (aI _) (.cells yU 29);have k0:=aK w yU 29;have z0:(w.alloc (.cells yU 29)).heap.size=w.heap.size+1:=by simp
 have OJ:Hid (∀ W,Below w.heap.size w W->nQ W B th rv os∧mU W (jF th rv os) os):=fun W hW=>⟨h.below hW,fun o ho=>(jD o ho).outs (dN.below hW) (fun b hb=>.inl hb)⟩
 have c0:(w.alloc (.cells yU 29)).cell? ⟨bb,oo+1,none⟩=some (.pointer (some ⟨th,0,none⟩)):=(b0.cell (p:=⟨bb,oo+1,none⟩) zH).trans hc;have hg:=tN th rv os B (.slice na nl nc) lab _ (OJ.out _ b0).1 hl hd.1 (OJ.out _ b0).2 (hn.below b0) (by omega);unfold ptr at hg;obtain⟨W0,FH⟩:∃ W0,w.alloc (.cells yU 29)=W0:=⟨_,rfl⟩;rw [FH] at b0 k0 z0 c0 hg;obtain⟨R,HR⟩:∃ R,Hid (R=H6 os lab q):=⟨_,rfl⟩;rw [<- HR.out];clear h jD hn hc
 rcases JK hd.1 lab with⟨hi,c,oN,hp,h0⟩|⟨hi,gI⟩
 ·have HA:Hid (R=atG c q):=by show _=_;rw [HR.out,H6,if_pos hi,hp]
  have mD:Calls Tryz.prog 70 #[.pointer (some ⟨th,0,none⟩),.slice na nl nc] W0 fun e w'=>e=.returned (.tuple #[.pointer (some ⟨c.dS,0,none⟩),.bool true])∧Below W0.heap.size W0 w':=by
   refine hg.mono ?_;rintro e w' ⟨hb,⟨-,o,ho,-,he⟩|⟨ML,-⟩⟩
   ·rw [hp] at ho;cases ho
    exact⟨he,hb⟩
   rw [hi] at ML;cases ML
  have hcd:=hd.2 c oN;have hsf:=fun W (hW:Below w.heap.size w W)=>VV c q B W ((OJ.out W hW).1.jG c oN) (by have:=hcd.2.1;omega) hcd.1 (fun s hs=>by have:=(hcd.2.2 s hs).2;omega)
  clear hg HR hp hi h0
  by_cases hq:0<(tZ c q).length
  ·have hE:R=⟨3,tZ c q,false,⟨#[]⟩⟩:=by rw [HA.out,atG,if_pos hq]
   subst hE;clear HA;go_enter Tryz.func57,Tryz.ntmps57;go_wp2_with fail
   refine mD.mono ?_;rintro e w1 ⟨rfl,b1⟩;have gP:=Nm.aC b0 b1;have k1:=aB k0 b1;clear mD k0 c0;go_wp2_with fail
   refine(hsf _ gP).mono ?_;rintro e w2 ⟨v2,ps2,rfl,e2,z2,b2⟩;obtain⟨va,vc,rfl⟩:=aT z2.outer;have kH:=Nm.aC gP b2;have k2:=aB k1 b2;have hlen:ps2.length=(tZ c q).length:=by rw [<- e2,List.length_map]
   have i1:(0:Int)<(ps2.length:Int):=by omega
   have mM:w.heap.size<w1.heap.size:=cO k1;obtain⟨kX,MV,MW⟩:=kD (k:=3) (b:=false) (t:=⟨#[]⟩) k2 rfl z2 mM (aI _) kH;have HX:=Nm.aD (aV e2 (aV MV MW));have rk:=aA k2
   have fk:=aF k2
   clear hsf e2 z2 MV MW k1 b1 b2 hlen hq;simp only [bG,Nat.reduceAdd,Nat.zero_add] at kX HX;have rX:=aA kX
   clear kX;go_wp2_with fail
   refine eB (v:=.agg #[.int .i64 3,(.slice va ps2.length vc),.bool false,.string ⟨#[]⟩]) ?_ rfl ⟨_,_,rfl,HX.out.1,HX.out.2.1,HX.out.2.2⟩;simp [results,Tryz.f57,go_sem,rX]
  have IK:(tZ c q).length=0:=by omega
  cases hf:c.ss.find? (fun s=>decide (s.ty=5)) with
  |some s=>
   have hs:=List.mem_of_find?_eq_some hf;have PY:s.ty=5:=by have:=List.find?_some hf;simpa using this
   have hE:R=⟨4,[mO (c,s)],false,MU (mO (c,s)).da⟩:=by rw [HA.out,atG,if_neg hq,hf]
   subst hE;have Za:=fun W (hW:Below w.heap.size w W)=>wX c s B W ((OJ.out W hW).1.jG c oN) (by have:=hcd.2.1;omega) hcd.1 hs (by have:=(hcd.2.2 s hs).2;omega)
   obtain⟨hd0,hdn⟩:=dM c oN s hs;have sI:=fun W=>xG (MU (mO (c,s)).da) W hdn
   rw [PY] at Za;unfold ptr at Za;clear HA hf hq
   obtain⟨⟨f0,d0⟩,rest,MN⟩:∃ x r,s.da=x::r:=by
    cases hx:s.da with
    |nil=>rw [hx] at hd0;simp at hd0
    |cons x r=>exact⟨x,r,rfl⟩
   have hD:MU (mO (c,s)).da=d0:=by simp [MU,mO,MN]
   have hZ:mO (c,s)=⟨c.nm,5,s.tt,d0::rest.map (·.2)⟩:=by rw [mO,PY,MN];rfl
   rw [hD] at hdn sI ⊢;rw [MN] at Za;go_enter Tryz.func57,Tryz.ntmps57;go_wp2_with fail
   refine mD.mono ?_;rintro e w1 ⟨rfl,b1⟩;have gP:=Nm.aC b0 b1;have k1:=aB k0 b1;clear mD k0 c0;go_wp2_with fail
   refine(hsf _ gP).mono ?_;rintro e w2 ⟨v2,ps2,rfl,e2,z2,b2⟩;obtain⟨va,vc,rfl⟩:=aT z2.outer;have kH:=Nm.aC gP b2;have k2:=aB k1 b2;have hlen:ps2.length=0:=by rw [<- IK,<- e2,List.length_map]
   have i1:¬(0:Int)<(ps2.length:Int):=by omega
   have aG0:=Za _ kH;clear Za hsf e2 z2 k1 b1 b2 IK;go_wp2_with fail
   refine aG0.mono ?_;rintro e w3 ⟨v3,rfl,o3,b3⟩;simp only [List.length_cons,List.map_cons] at o3;obtain⟨g3,FO,rfl⟩:=ownsRow_succ o3
   have cD:w3.cell? ⟨g3,0,none⟩=some (.string d0):=by
    rw [o3.cellAt 0 (by omega)];rfl
   have uC:=Nm.aC kH b3;have cA:=(aJ w3.heap.size w3).alloc (aI _) (.cells #[.string c.nm,.int .i64 5,.int .i64 s.tt,.slice (some ⟨g3,0,none⟩) (rest.length+1) FO] 42);have kS:=aK w3 #[.string c.nm,.int .i64 5,.int .i64 s.tt,.slice (some ⟨g3,0,none⟩) (rest.length+1) FO] 42;have k3:=aB (aB k2 b3) cA;have nN:=Nm.aC uC cA;have cD4:(w3.alloc (.cells #[.string c.nm,.int .i64 5,.int .i64 s.tt,.slice (some ⟨g3,0,none⟩) (rest.length+1) FO] 42)).cell? ⟨g3,0,none⟩=some (.string d0):=(cA.cell (p:=⟨g3,0,none⟩) (fD w3 _ cD)).trans cD;have o4:=fM (own_below o3 cA) (show w.heap.size+1<=w2.heap.size from cO k2);have hS:Hid (∀ X,Below (w3.alloc (.cells #[.string c.nm,.int .i64 5,.int .i64 s.tt,.slice (some ⟨g3,0,none⟩) (rest.length+1) FO] 42)).heap.size (w3.alloc (.cells #[.string c.nm,.int .i64 5,.int .i64 s.tt,.slice (some ⟨g3,0,none⟩) (rest.length+1) FO] 42)) X->bW X w3.heap.size #[.string c.nm,.int .i64 5,.int .i64 s.tt,.slice (some ⟨g3,0,none⟩) (rest.length+1) FO] 42∧X.cell? ⟨g3,0,none⟩=some (.string d0)):=fun X hX=>⟨aB kS hX,(hX.cell (p:=⟨g3,0,none⟩) (fD _ _ cD4)).trans cD4⟩
   have s4:w.heap.size<(w3.alloc (.cells #[.string c.nm,.int .i64 5,.int .i64 s.tt,.slice (some ⟨g3,0,none⟩) (rest.length+1) FO] 42)).heap.size:=cO k3;obtain⟨W4,hW4⟩:∃ W4,w3.alloc (.cells #[.string c.nm,.int .i64 5,.int .i64 s.tt,.slice (some ⟨g3,0,none⟩) (rest.length+1) FO] 42)=W4:=⟨_,rfl⟩;rw [hW4] at k3 nN hS s4 o4;have bd:=(aJ W4.heap.size W4).drew;clear cA kS cD cD4 b3 uC o3 k2 kH hlen aG0;go_upto_region 9 with fail
   try rw [hW4]
   refine xV (fun X=>bW X w3.heap.size #[.string c.nm,.int .i64 5,.int .i64 s.tt,.slice (some ⟨g3,0,none⟩) (rest.length+1) FO] 42∧X.cell? ⟨g3,0,none⟩=some (.string d0)) 8 (by kernel_rfl) (hS.out _ bd) fun aY=>?_;refine NE (i:=0) (v:=?_) rfl ?_ ?_;rotate_left 1
   ·(rintro W ⟨s1,s2⟩;have PL:=(aA s1);go_simp;try (with_reducible rfl))
   refine NE (i:=2) (v:=?_) rfl ?_ ?_;rotate_left 1
   ·(rintro W ⟨s1,s2⟩;have PL:=(aA s1);go_simp;try (with_reducible rfl))
   refine NE (i:=3) (v:=?_) rfl ?_ ?_;rotate_left 1
   ·(rintro W ⟨s1,s2⟩;have PL:=(aA s1);go_simp;try (with_reducible rfl))
   refine NE (i:=4) (v:=?_) rfl ?_ ?_;rotate_left 1
   ·(rintro W ⟨s1,s2⟩;have PL:=(aA s1);go_simp;try (with_reducible rfl))
   refine NE (i:=5) (v:=?_) rfl ?_ ?_;rotate_left 1
   ·(rintro W ⟨s1,s2⟩;have PL:=(aA s1);go_simp;try (with_reducible rfl))
   refine YO (i:=1) (j:=6) (by kernel_rfl) rfl rfl (fun K hK=>?_) fun K hK=>?_
   ·go_simp;have ca:=(aJ W4.drew.heap.size W4.drew).alloc (aI _) (.cells #[.string c.nm,.int .i64 5,.int .i64 s.tt,.slice (some ⟨g3,0,none⟩) (rest.length+1) FO] 42);have bA:=Nm.aC bd ca;have z1:dF (W4.drew.alloc (.cells #[.string c.nm,.int .i64 5,.int .i64 s.tt,.slice (some ⟨g3,0,none⟩) (rest.length+1) FO] 42)) (w.heap.size+1) (.slice (some ⟨W4.heap.size,0,none⟩) 1 1) [((⟨c.nm,5,s.tt,d0::rest.map (·.2)⟩:Sz),Value.slice (some ⟨g3,0,none⟩) (rest.length+1) FO)]:=JS (W:=W4.drew) (s:=⟨c.nm,5,s.tt,d0::rest.map (·.2)⟩) (by have:=own_below o4 bd;simpa [List.map_map,Function.comp_def] using this) (by have:=bd.size;omega);refine hK.out _ _ (hS.out _ bA) fun aY=>?_;clear hK K;refine DU (i:=6) (by kernel_rfl) rfl fun K hK=>?_;go_simp;refine(sI _).mono ?_;rintro e w6 ⟨rfl,b6⟩;have bB:=Nm.aC bA b6;have z2:=z1.below b6;go_wp2_with fail
    refine hK.out _ _ (hS.out _ bB) fun aY=>?_;clear hK K;refine NE (i:=7) (v:=?_) rfl ?_ ?_;rotate_left 1
    ·(rintro W ⟨s1,s2⟩;have PL:=(aA s1);go_simp;try (with_reducible rfl))
    have k6:=aB k3 bB;have Qq:=Nm.aC nN bB;have hz6:List.map (·.1) [((⟨c.nm,5,s.tt,d0::rest.map (·.2)⟩:Sz),Value.slice (some ⟨g3,0,none⟩) (rest.length+1) FO)]=[mO (c,s)]:=by rw [hZ];rfl
    obtain⟨kX,MV,MW⟩:=kD (k:=4) (b:=false) (t:=d0) k6 rfl z2 (Nat.lt_succ_self _) (aI _) Qq;have HX:=Nm.aD (aV hz6 (aV MV MW));have rk:=aA k6
    have fk:=aF k6
    clear MV MW hz6;simp only [bG,Nat.reduceAdd,Nat.zero_add] at kX HX;have rX:=aA kX
    clear kX;refine iB (by kernel_rfl) rfl (by kernel_rfl) fun K hK=>?_;go_simp;refine hK.out _ _ ?_;clear hK K;go_wp2_with fail
    refine eB (v:=.agg #[.int .i64 4,.slice (some ⟨W4.heap.size,0,none⟩) 1 1,.bool false,.string d0]) ?_ rfl ⟨_,_,rfl,HX.out.1,HX.out.2.1,HX.out.2.2⟩;simp [results,Tryz.f57,go_sem,rX]
   go_simp;refine(sI _).mono ?_;rintro e w6 ⟨rfl,b6⟩;have bA:=Nm.aC bd b6;go_wp2_with fail
   refine hK.out _ _ (hS.out _ bA) fun aY=>?_;clear hK K;refine DU (i:=1) (by kernel_rfl) rfl fun K hK=>?_;go_simp;have ca:=(aJ w6.heap.size w6).alloc (aI _) (.cells #[.string c.nm,.int .i64 5,.int .i64 s.tt,.slice (some ⟨g3,0,none⟩) (rest.length+1) FO] 42);have bB:=Nm.aC bA ca;have z2:dF (w6.alloc (.cells #[.string c.nm,.int .i64 5,.int .i64 s.tt,.slice (some ⟨g3,0,none⟩) (rest.length+1) FO] 42)) (w.heap.size+1) (.slice (some ⟨w6.heap.size,0,none⟩) 1 1) [((⟨c.nm,5,s.tt,d0::rest.map (·.2)⟩:Sz),Value.slice (some ⟨g3,0,none⟩) (rest.length+1) FO)]:=JS (W:=w6) (s:=(⟨c.nm,5,s.tt,d0::rest.map (·.2)⟩:Sz)) (by have:=own_below o4 bA;simpa [List.map_map,Function.comp_def] using this) (by have:=bA.size;omega);refine hK.out _ _ (hS.out _ bB) fun aY=>?_;clear hK K;refine NE (i:=7) (v:=?_) rfl ?_ ?_;rotate_left 1
   ·(rintro W ⟨s1,s2⟩;have PL:=(aA s1);go_simp;try (with_reducible rfl))
   have k6:=aB k3 bB;have Qq:=Nm.aC nN bB;have hz6:List.map (·.1) [((⟨c.nm,5,s.tt,d0::rest.map (·.2)⟩:Sz),Value.slice (some ⟨g3,0,none⟩) (rest.length+1) FO)]=[mO (c,s)]:=by rw [hZ];rfl
   obtain⟨kX,MV,MW⟩:=kD (k:=4) (b:=false) (t:=d0) k6 rfl z2 (Nat.lt_succ_self _) (aI _) Qq;have HX:=Nm.aD (aV hz6 (aV MV MW));have rk:=aA k6
   have fk:=aF k6
   clear MV MW hz6;simp only [bG,Nat.reduceAdd,Nat.zero_add] at kX HX;have rX:=aA kX
   clear kX;refine iB (by kernel_rfl) rfl (by kernel_rfl) fun K hK=>?_;go_simp;refine hK.out _ _ ?_;clear hK K;go_wp2_with fail
   refine eB (v:=.agg #[.int .i64 4,.slice (some ⟨w6.heap.size,0,none⟩) 1 1,.bool false,.string d0]) ?_ rfl ⟨_,_,rfl,HX.out.1,HX.out.2.1,HX.out.2.2⟩
   simp [results,Tryz.f57,go_sem,rX]
  |none=>
   have aR0:gY (eP 5) c.ss=false:=by
    cases hi5:gY (eP 5) c.ss
    ·rfl
    obtain⟨x,hx,NF⟩:=uP hi5;have:=List.find?_eq_none.1 hf x (dA hx);simp only [decide_eq_true_eq] at this;rw [eP,Nm.pI] at NF
    split at NF
    ·omega
    split at NF<;>omega
   have hE:R=NZ 5:=by rw [HA.out,atG,if_neg hq,hf]
   subst hE;have Za:=fun W (hW:Below w.heap.size w W)=>VR c 5 B W ((OJ.out W hW).1.jG c oN) (by have:=hcd.2.1;omega) hcd.1 aR0
   unfold ptr at Za;clear HA hf hq;go_enter Tryz.func57,Tryz.ntmps57;go_wp2_with fail
   refine mD.mono ?_;rintro e w1 ⟨rfl,b1⟩;have gP:=Nm.aC b0 b1;have k1:=aB k0 b1;clear mD k0 c0;go_wp2_with fail
   refine(hsf _ gP).mono ?_;rintro e w2 ⟨v2,ps2,rfl,e2,z2,b2⟩;obtain⟨va,vc,rfl⟩:=aT z2.outer;have kH:=Nm.aC gP b2;have k2:=aB k1 b2;have hlen:ps2.length=0:=by rw [<- IK,<- e2,List.length_map]
   have i1:¬(0:Int)<(ps2.length:Int):=by omega
   have aG0:=Za _ kH;clear Za hsf e2 z2 k1 b1 b2 IK;go_wp2_with fail
   refine aG0.mono ?_;rintro e w3 ⟨v3,rfl,o3,b3⟩;obtain⟨ua,uc,rfl⟩:=aT o3;have uC:=Nm.aC kH b3;have cA:=(aJ w3.heap.size w3).alloc (aI _) (.cells #[.string ⟨#[]⟩,.int .i64 0,.int .i64 0,.slice ua 0 uc] 42);have k3:=aB (aB k2 b3) cA;have nN:=Nm.aC uC cA;have mM:w.heap.size<(w3.alloc (.cells #[.string ⟨#[]⟩,.int .i64 0,.int .i64 0,.slice ua 0 uc] 42)).heap.size:=cO k3;obtain⟨kX,MV,MW⟩:=kD (k:=5) (b:=false) (t:=⟨#[]⟩) k3 rfl (dF.nil _ _) mM (aI _) nN;have HX:Hid (List.map (·.1) ([]:List Zp)=(NZ 5).ss∧dF _ _ _ ([]:List Zp)∧Below _ _ _):=⟨rfl,MV,MW⟩;have rk:=aA k3
   have fk:=aF k3
   clear MV MW k2 b3 hlen o3 aG0;simp only [Ck,Option.getD_none] at*;simp only [bG,Nat.reduceAdd,Nat.zero_add] at kX HX;have rX:=aA kX
   clear kX;go_wp2_with fail
   refine eB (v:=.agg #[.int .i64 5,(.slice none 0 0),.bool false,.string ⟨#[]⟩]) ?_ rfl ⟨_,_,rfl,HX.out.1,HX.out.2.1,HX.out.2.2⟩;simp [results,Tryz.f57,go_sem,rX]
 have hE:R=NZ 5:=by rw [HR.out,H6,if_neg (by rw [hi];decide)]
 subst hE
 have mD:Calls Tryz.prog 70 #[.pointer (some ⟨th,0,none⟩),.slice na nl nc] W0 fun e w'=>e=.returned (.tuple #[.pointer none,.bool false])∧Below W0.heap.size W0 w':=by
  refine hg.mono ?_;rintro e w' ⟨hb,⟨ML,-⟩|⟨-,he⟩⟩
  ·rw [hi] at ML;cases ML
  exact⟨he,hb⟩
 clear hg HR hi gI;go_enter Tryz.func57,Tryz.ntmps57;go_wp2_with fail
 refine mD.mono ?_;rintro e w1 ⟨rfl,b1⟩;have gP:=Nm.aC b0 b1;have k1:=aB k0 b1;have mM:w.heap.size<w1.heap.size:=cO k1;obtain⟨kX,MV,MW⟩:=kD (k:=5) (b:=false) (t:=⟨#[]⟩) k1 rfl (dF.nil _ _) mM (aI _) gP;have HX:Hid (List.map (·.1) ([]:List Zp)=(NZ 5).ss∧dF _ _ _ ([]:List Zp)∧Below _ _ _):=⟨rfl,MV,MW⟩;have rk:=aA k1
 have fk:=aF k1
 clear mD k0 c0 MV MW;simp only [bG,Nat.reduceAdd,Nat.zero_add] at kX HX;have rX:=aA kX
 clear kX;go_wp2_with fail
 refine eB (v:=.agg #[.int .i64 5,(.slice none 0 0),.bool false,.string ⟨#[]⟩]) ?_ rfl ⟨_,_,rfl,HX.out.1,HX.out.2.1,HX.out.2.2⟩;simp [results,Tryz.f57,go_sem,rX]
theorem dF.aMn{T:TypeId}(h1:42≠T)(h2:9≠T):∀ (vs:List Value) (i:Nat) (cs:Array Value) (W:World),dF W B v ps->bW W g cs T->dF (bG W g i vs) B v ps
 |[],_,_,_,z,_=>z
 |y::vs,i,cs,W,z,k=>dF.aMn h1 h2 vs (i+1) _ _ (z.beside (oZ W g i y) (fun g' e=>by cases e;exact dD z.outer k h1) (fun g' e p hp=>by
  cases e
  obtain⟨j,hj⟩:=List.getElem?_of_mem hp
  exact dD (z.inner j p hj) k h2)) (aM k i y)
theorem V4(s:Sz)(r:ByteArray×Int):(r.2=0∧AP s r=⟨6,[s],false,r.1⟩)∨(r.2≠0∧AP s r=⟨7,[s],false,⟨#[]⟩⟩):=by
 by_cases h:r.2=0
 ·exact .inl ⟨h,if_pos h⟩
 exact .inr ⟨h,if_neg h⟩
theorem Mk(lab iK:List ByteArray)(na ca:Option Addr)(nc cc:Nat)(s:Sz)(u:Value)(d0:ByteArray)(rest zs:List ByteArray)(B:Nat)(w:World)(hn:Nm.bP w (.slice na lab.length nc) lab)(DC:Gl lab)(bY:iK.length<lab.length)(hs:s.da=d0::rest)(hz:Nm.split d0=some zs)(hd0:d0.size<=maxLen)(hu:w.ownsRow B 9 1 u s.da.length (s.da.map Value.string))(hB:B<=w.heap.size):
 Calls Tryz.prog 58 #[.slice na lab.length nc,.slice ca iK.length cc,.agg #[.string s.own,.int .i64 s.ty,.int .i64 s.tt,u]] w fun e w'=>∃ v,e=.returned (.agg #[.int .i64 (AP s (lT (lab.take (lab.length-iK.length)++zs))).kd,v,.bool false,.string (AP s (lT (lab.take (lab.length-iK.length)++zs))).tgt])∧dF w' B v [(s,u)]∧Below w.heap.size w w':=by
 have uO:=(Nm.jB hz).2;have hzz:=Nm.dK hz;have hla:=Nm.bL lab;have hlc:=Nm.bL zs;have hw2:=DC.2
 have Vr:=Jl (ls:=lab.take (lab.length-iK.length)++zs) (by
  intro x hx
  rcases iU hx with h|h
  ·exact DC.1 x (List.mem_of_mem_take h)
  exact uO x h)
 rw [Vr];have hwt:=Nm.jT lab (lab.length-iK.length);have hwa:=Nm.mP (lab.take (lab.length-iK.length)) zs;obtain⟨d,Gv⟩:∃ d,d=lab.length-iK.length:=⟨_,rfl⟩;rw [<- Gv] at hwt hwa ⊢;have hq:(lab.length:Int)-(iK.length:Int)=(d:Int):=by omega
 have nV:d<=lab.length:=by omega
 have hsd:=fun W=>nK d0 W hd0
 rw [hz] at hsd;simp only [Option.isSome_some,Option.getD_some] at hsd;obtain⟨x,ty,tt,da⟩:=s;simp only at hs hu ⊢
 subst hs;have hwz:Nm.cK (lab.take d++zs)<=1000000000:=by omega
 obtain⟨nb,noff,rfl⟩:∃ b off,na=some ⟨b,off,none⟩:=by
  obtain⟨a,cap,e,-,-,-,h4⟩:=hn;obtain⟨b,off,e2,-⟩:=h4 (by intro h;rw [h] at bY;simp at bY);simp only [gK] at e;exact⟨b,off,by rw [e.1,e2]⟩
 have gT:lab.length<=nc:=by
  obtain⟨a,cap,e,h1,-⟩:=hn;simp only [gK] at e;omega
 have ht:=aA2 hn nV;simp only [List.length_cons,List.map_cons] at hu;obtain⟨ug,uc,rfl⟩:=ownsRow_succ hu
 have cD:w.cell? ⟨ug,0,none⟩=some (.string d0):=by
  rw [hu.cellAt 0 (by omega)];rfl
 have b0:=((aJ w.heap.size w).alloc (aI _) (.cells #[.string x,.int .i64 ty,.int .i64 tt,.slice (some ⟨ug,0,none⟩) (rest.length+1) uc] 42)).alloc (by simp) (.cells yU 29);have kS:=bD (aK w #[.string x,.int .i64 ty,.int .i64 tt,.slice (some ⟨ug,0,none⟩) (rest.length+1) uc] 42) (.cells yU 29);have kR:=aK (w.alloc (.cells #[.string x,.int .i64 ty,.int .i64 tt,.slice (some ⟨ug,0,none⟩) (rest.length+1) uc] 42)) yU 29;rw [jO] at kR;obtain⟨W0,FH⟩:∃ W0,(w.alloc (.cells #[.string x,.int .i64 ty,.int .i64 tt,.slice (some ⟨ug,0,none⟩) (rest.length+1) uc] 42)).alloc (.cells yU 29)=W0:=⟨_,rfl⟩;rw [FH] at b0 kS kR;have cD0:W0.cell? ⟨ug,0,none⟩=some (.string d0):=(b0.cell (p:=⟨ug,0,none⟩) (fD w _ cD)).trans cD;have ht0:=ht.below b0;have FQ:=own_below hu b0;have rS:=aA kS
 have HT:=Nm.aD (V4 ⟨x,ty,tt,d0::rest⟩ (GK (lab.take d++zs),GL (lab.take d++zs)));clear hn ht hu cD Vr Gv hwt hwa DC uO hz;have aR1:=fun v W h=>PD v (lab.take d++zs) W h hwz
 generalize GK (lab.take d++zs)=X at*;generalize GL (lab.take d++zs)=Y at*;go_enter Tryz.func58,Tryz.ntmps58;go_wp2_with fail
 refine(hsd _).mono ?_;rintro e w1 ⟨v1,rfl,o1,b1⟩;have k1:=aB kS b1;have RI:=aB kR b1;have ht1:=ht0.below b1;have hu1:=own_below FQ b1;have gP:=Nm.aC b0 b1;have r1:=Nm.bP.aP o1;have VD:=Aq _ _ (lab.take d) zs _ ht1 r1 (by simp;omega) (by omega);clear kS kR ht0 FQ b0 b1 rS cD0 o1 hsd;go_wp2_with fail
 refine VD.mono ?_;rintro e w2 ⟨v2,rfl,o2,b2⟩;have k2:=aB k1 b2;have EU:=aB RI b2;have hu2:=own_below hu1 b2;have kH:=Nm.aC gP b2;have hwr:=aR1 v2 _ (Nm.bP.aP o2);clear k1 RI hu1 gP b2 ht1 r1 VD o2;go_wp2_with fail
 refine hwr.mono ?_;rintro e w3 ⟨rfl,b3⟩;have k3:=aB k2 b3;have FM:=aB EU b3;have hu3:=own_below hu2 b3;have uC:=Nm.aC kH b3;clear k2 EU hu2 kH b3 hwr;have r3:=aA k3
 have ca3:=(aJ w3.heap.size w3).alloc (aI _) (.cells #[.string x,.int .i64 ty,.int .i64 tt,.slice (some ⟨ug,0,none⟩) (rest.length+1) uc] 42);have RL:=aB FM ca3;have nN:=Nm.aC uC ca3;have z4:=JS (s:=⟨x,ty,tt,d0::rest⟩) (u:=.slice (some ⟨ug,0,none⟩) (rest.length+1) uc) hu3 (jN hB uC.size);have rk:=aA RL
 have fk:=aF RL
 clear ca3 hu3 uC;simp only at z4
 have key:∀ (K:Int) (T:ByteArray),bW (bG (w3.alloc (.cells #[.string x,.int .i64 ty,.int .i64 tt,.slice (some ⟨ug,0,none⟩) (rest.length+1) uc] 42)) (w.heap.size+1) 0 (QY K (.slice (some ⟨w3.heap.size,0,none⟩) 1 1) false T)) (w.heap.size+1) (QY K (.slice (some ⟨w3.heap.size,0,none⟩) 1 1) false T).toArray 29∧Hid (dF (bG (w3.alloc (.cells #[.string x,.int .i64 ty,.int .i64 tt,.slice (some ⟨ug,0,none⟩) (rest.length+1) uc] 42)) (w.heap.size+1) 0 (QY K (.slice (some ⟨w3.heap.size,0,none⟩) 1 1) false T)) B (.slice (some ⟨w3.heap.size,0,none⟩) 1 1) [((⟨x,ty,tt,d0::rest⟩:Sz),Value.slice (some ⟨ug,0,none⟩) (rest.length+1) uc)]∧Below w.heap.size w (bG (w3.alloc (.cells #[.string x,.int .i64 ty,.int .i64 tt,.slice (some ⟨ug,0,none⟩) (rest.length+1) uc] 42)) (w.heap.size+1) 0 (QY K (.slice (some ⟨w3.heap.size,0,none⟩) 1 1) false T))):=by
  intro K T;refine⟨dH _ RL rfl,dF.aMn (by decide) (by decide) _ 0 _ _ z4 RL,vB (by omega) _ 0 _ nN⟩
 rcases HT.out with⟨h0,ht⟩|⟨h0,ht⟩
 ·have h0:Y=0:=h0;subst h0;have HV:=Nm.aD ht;obtain⟨kX,HX⟩:=key 6 X;simp only [bG,Nat.reduceAdd,Nat.zero_add] at kX HX;have rX:=aA kX
  clear kX key HT ht;go_wp2_with fail
  refine eB (v:=.agg #[.int .i64 6,.slice (some ⟨w3.heap.size,0,none⟩) 1 1,.bool false,.string X]) ?_ rfl ⟨.slice (some ⟨w3.heap.size,0,none⟩) 1 1,by rw [HV.out],HX.out.1,HX.out.2⟩;simp [results,Tryz.f58,go_sem,rX]
 have h0:Y≠0:=h0;have h1:(Y != 0)=true:=by simpa using h0
 have HV:=Nm.aD ht;obtain⟨kX,HX⟩:=key 7 ⟨#[]⟩;simp only [bG,Nat.reduceAdd,Nat.zero_add] at kX HX;have rX:=aA kX
 clear kX key HT ht;go_wp2_with fail
 refine eB (v:=.agg #[.int .i64 7,.slice (some ⟨w3.heap.size,0,none⟩) 1 1,.bool false,.string ⟨#[]⟩]) ?_ rfl ⟨.slice (some ⟨w3.heap.size,0,none⟩) 1 1,by rw [HV.out],HX.out.1,HX.out.2⟩;simp [results,Tryz.f58,go_sem,rX]
theorem I_(kd:Int)(wl:Bool)(tgt name:ByteArray)(v:Value)(ps:List Zp)(B:Nat)(nv:Value)(lab:List ByteArray)(w:World)(hn:∀ W,Below B w W->Nm.bP W nv lab)(hw:Nm.cK lab<=254)(hj:mJ lab=name)(hz:dF w B v ps)(hB:B<=w.heap.size)(hl:ps.length<=1000000):
 Calls Tryz.prog 61 #[.agg #[.int .i64 kd,v,.bool wl,.string tgt],nv] w fun e w'=>∃ qs,e=.returned (.agg #[.int .i64 kd,v,.bool true,.string tgt])∧qs.map (·.1)=(ps.map (·.1)).map (MF name)∧dF w' B v qs∧Below B w w':=by
 obtain⟨va,vc,rfl⟩:=aT hz.outer;have b0:=((aJ B w).alloc hB (.cells #[.int .i64 kd,.slice va ps.length vc,.bool wl,.string tgt] 29)).alloc (by simp;omega) (.cells yU 29);have c0:=((aJ w.heap.size w).alloc (aI _) (.cells #[.int .i64 kd,.slice va ps.length vc,.bool wl,.string tgt] 29)).alloc (by simp) (.cells yU 29);have Ij:=bD (aK w #[.int .i64 kd,.slice va ps.length vc,.bool wl,.string tgt] 29) (.cells yU 29);have kr0:=aK (w.alloc (.cells #[.int .i64 kd,.slice va ps.length vc,.bool wl,.string tgt] 29)) yU 29;rw [jO] at kr0;have z0:=hz.below c0;obtain⟨W0,FH⟩:∃ W0,(w.alloc (.cells #[.int .i64 kd,.slice va ps.length vc,.bool wl,.string tgt] 29)).alloc (.cells yU 29)=W0:=⟨_,rfl⟩;rw [FH] at b0 Ij kr0 z0;have EY:=aM Ij 2 (.bool true);simp only [List.setIfInBounds_toArray,List.set_cons_zero,List.set_cons_succ] at EY;have RI:bW (W0.setCell ⟨w.heap.size,2,none⟩ (.bool true)) (w.heap.size+1) _ _:=eU kr0 (by omega)
 have z1:dF (W0.setCell ⟨w.heap.size,2,none⟩ (.bool true)) B _ ps:=z0.beside (oZ W0 w.heap.size 2 (.bool true)) (fun g' e=>by cases e;exact dD z0.outer Ij (by decide)) (fun g' e p hp=>by
  cases e
  obtain⟨j,hj⟩:=List.getElem?_of_mem hp
  exact dD (z0.inner j p hj) Ij (by decide))
 have b1:Below B w (W0.setCell ⟨w.heap.size,2,none⟩ (.bool true)):=b0.setCell (p:=⟨w.heap.size,2,none⟩) hB _;have rS:=aA Ij
 have fS:=aF Ij
 have rS1:=aA EY
 have HW:=Nm.aD (fun W (hW:Below B w W)=>by
  have:=PD nv lab W (hn W hW) (by omega);rw [GM hw,GN hw] at this;have e:(⟨(Nm.joinL lab).toArray⟩:ByteArray)=name:=hj;rw [e] at this
  exact this)
 clear hn hw hj hz c0 kr0 z0 b0;go_enter Tryz.func61,Tryz.ntmps61;go_wp2_with fail
 generalize AQ:w.heap.size=g at*;have WT:=Nm.aD AQ;clear AQ rS fS rS1 Ij
 go_loopw [10] (fun i wr=>∃ (k:Nat),k<=ps.length∧i=.int .i64 k∧dF wr B (.slice va ps.length vc) ((ps.map (xC name)).take k++ps.drop k)∧Below B w wr∧bW wr g #[.int .i64 kd,.slice va ps.length vc,.bool true,.string tgt] 29∧bW wr (g+1) yU 29) (fun i _=>ps.length-(intOf i).toNat)
 ·exact⟨0,dR _,rfl,by simpa using z1,b1,EY,RI⟩
 clear z1 b1 EY RI;obtain⟨k,hk,rfl,zk,bk,Ij,kr0⟩:=hrel;have rS:=aA Ij
 by_cases bY:k<ps.length
 ·obtain⟨p,hp⟩:=gQ bY
  obtain⟨gv,hva⟩:∃ gv,va=some ⟨gv,0,none⟩:=by
   have ho:=zk.outer;rw [Cw hk] at ho;obtain⟨m,hm⟩:∃ m,ps.length=m+1:=⟨ps.length-1,by omega⟩;rw [hm] at ho;obtain⟨gv,cap,e⟩:=ownsRow_succ ho;simp only [gK] at e;exact⟨gv,e.1⟩
  subst hva;have n1:=fE k
  have n2:(k:Int)<(ps.length:Int):=by omega
  have bd:=(aJ wr.heap.size wr).drew;have hBw:B<=wr.heap.size:=by have h1:=bk.size;rw [WT.out] at h1;omega
  go_upto_region 5 with fail
  refine kR (fun X=>bW X g #[.int .i64 kd,.slice (some ⟨gv,0,none⟩) ps.length vc,.bool true,.string tgt] 29) 1000 (fO Ij) fun aY=>?_;refine kO 0 rfl ?_;refine kO 1 rfl ?_;refine kO 2 rfl ?_;refine kO 3 rfl ?_;refine k1 4 rfl fun K hK=>?_
  go_simp;refine(HW.out _ (bk.trans (bd.mono hBw))).mono ?_;rintro e w1 ⟨rfl,b1⟩;have c1:=Nm.aC bd b1;have EY:=aB Ij c1;have RI:=aB kr0 c1;have z1:=zk.below c1;have bk1:=bk.trans (c1.mono hBw);go_wp2_with fail
  refine hK.out _ _ EY fun aY=>?_;clear hK K;refine kO 5 rfl ?_;refine kO 6 rfl ?_;refine kO 7 rfl ?_;refine kO 8 rfl ?_;refine kO 9 rfl ?_;have Fe:=Cw (name:=name) hk
  have aH:w1.cell? ⟨gv,k*4,none⟩=some (.string p.1.own):=by
   have ho:=z1.outer;rw [Fe] at ho;rw [ho.cellAt (k*4) (by omega)];exact(lH _ k 0 p (YC hp) (by decide)).trans rfl
  have Xf:∀ i,w1.frozen? ⟨gv,i,none⟩=false:=by
   have ho:=z1.outer;rw [Fe] at ho;exact ho.frozenAt
  have z2:=dF.cell (i:=0) (y:=.string name) (q:=xC name p) z1 Fe.symm (YC hp) (by decide) rfl rfl rfl;rw [Nat.add_zero,Vd hp] at z2;have hgB:B<=gv:=(z1.outer.lt gv rfl).1;have b2:Below B w (w1.setCell ⟨gv,k*4,none⟩ (.string name)):=bk1.setCell (p:=⟨gv,k*4,none⟩) hgB _;have dM:∀ {b:Nat} {cs:Array Value},bW w1 b cs 29->b≠gv:=fun hb e=>dD z1.outer hb (by decide) (by rw [e];rfl)
  have EZ:bW (w1.setCell ⟨gv,k*4,none⟩ (.string name)) g _ _:=eU EY (dM EY);have EU:bW (w1.setCell ⟨gv,k*4,none⟩ (.string name)) (g+1) _ _:=eU RI (dM RI);refine k1 10 rfl fun K hK=>?_
  clear zk z1 Ij kr0 bk b1 c1 bd dM EY RI bk1 Fe rS;go_simp;refine hK.out _ _ EZ fun aY=>?_;clear hK K;refine kN ?_;go_simp;go_wp2;go_roundw
  ·exact⟨k+1,bY,by go_num,z2,b2,EZ,EU⟩
  simp [intOf];omega
 obtain rfl:k=ps.length:=by omega
 have e1:(ps.map (xC name)).take ps.length++ps.drop ps.length=ps.map (xC name):=by rw [List.drop_length,List.append_nil,<- List.length_map (f:=xC name),List.take_length]
 rw [e1] at zk;have kX:=dH [.int .i64 kd,.slice va ps.length vc,.bool true,.string tgt] kr0 rfl;have HX:Hid (dF (bG wr (g+1) 0 [.int .i64 kd,.slice va ps.length vc,.bool true,.string tgt]) B (.slice va ps.length vc) (ps.map (xC name))∧Below B w (bG wr (g+1) 0 [.int .i64 kd,.slice va ps.length vc,.bool true,.string tgt])):=⟨dF.aMn (by decide) (by decide) _ 0 _ _ zk kr0,vB (by omega) _ 0 _ bk⟩;simp only [bG,Nat.reduceAdd,Nat.zero_add] at kX HX;have rX:=aA kX
 have rk:=aA kr0
 have fk:=aF kr0
 clear kX zk bk e1;go_wp2;refine eB (v:=.agg #[.int .i64 kd,.slice va ps.length vc,.bool true,.string tgt]) ?_ rfl ⟨ps.map (xC name),rfl,?_,HX.out.1,HX.out.2⟩
 ·simp [results,Tryz.f61,go_sem,rX]
 rw [List.map_map,List.map_map];rfl
theorem aP4{os:List dG}{o:ByteArray}{al lab:List ByteArray}{t:Int}{w':World}{e:Ending}(hT:TZ os o al)(hg:Gl lab)(h:TsP os lab t w e w'):G9 (lS (eH os) (mJ lab) t) w e w':=by
 rcases h with⟨c,s,hc,hs,h1,h2,h3⟩|⟨h1,h3⟩
 ·rw [hT.fnd hg.jo hc hs h1 h2];exact h3
 rw [aF3 hg.jo hT.nm h1];exact h3
theorem at_len{os:List dG}(hd:Yk os)(y:List ByteArray)(q:Int):(H6 os y q).ss.length<=400001:=by
 rw [H6];split
 ·cases hp:os[posOf (dX y) os]? with
  |none=>simp
  |some c=>
   have h1:=(hd.2 c (dA hp)).2.1
   show(atG c q).ss.length<=400001
   rw [atG];split
   ·have h2:=List.length_filter_le (fun s:nY=>decide (q=s.ty)||decide (q=255)) c.ss;simp only [tZ,List.length_map];omega
   cases c.ss.find? fun s=>decide (s.ty=5)<;>simp
 simp
theorem aG1(bb oo th:Nat)(rv:Value)(os:List dG)(B:Nat)(na:Option Addr)(nc:Nat)(lab:List ByteArray)(o name:ByteArray)(aa:Option Addr)(ac:Nat)(al:List ByteArray)(q:Int)(w:World)(hT:TZ os o al)(h:nQ w B th rv os)(hl:os.length<=500000)(hd:Yk os)(jD:mU w (jF th rv os) os)(hn:Nm.bP w (.slice na lab.length nc) lab)(DC:Gl lab)(hj:mJ lab=name)(hc:w.cell? ⟨bb,oo+1,none⟩=some (ptr th))(hca:w.cell? ⟨bb,oo,none⟩=some (.slice aa al.length ac))(ha:Nm.bP w (.slice aa al.length ac) al)(XI:al.length<=1000)(zH:bb<w.heap.size)
 (dM:∀ c∈os,∀ s∈c.ss,0<s.da.length∧(MU (mO (c,s)).da).size<=1000000000) (Ry:∀ c∈os,∀ s∈c.ss,s.ty=39->∃ zs,Nm.split (MU (mO (c,s)).da)=some zs):
 Calls Tryz.prog 24 #[.pointer (some ⟨bb,oo,none⟩),.slice na lab.length nc,.int .i64 q] w (SoP (lkT os al lab name q) w):=by
 have YQ:lab.length<=254:=jN (Nm.bL lab) DC.2;have b0:=(aJ w.heap.size w).alloc (aI _) (.cells yU 29);have k0:=aK w yU 29;have OJ:Hid (∀ W,Below w.heap.size w W->nQ W B th rv os∧mU W (jF th rv os) os):=fun W hW=>⟨h.below hW,fun o ho=>(jD o ho).outs (dN.below hW) (fun b hb=>.inl hb)⟩
 have HC:Hid (∀ W,Below w.heap.size w W->W.cell? ⟨bb,oo,none⟩=some (.slice aa al.length ac)∧W.cell? ⟨bb,oo+1,none⟩=some (ptr th)):=fun W hW=>⟨by rw [<- hca];exact hW.cell (p:=⟨bb,oo,none⟩) zH,by rw [<- hc];exact hW.cell (p:=⟨bb,oo+1,none⟩) zH⟩
 have HU:Hid (∀ W,Below w.heap.size w W->Calls Tryz.prog 53 #[.slice na lab.length nc,.slice aa al.length ac] W fun e w'=>e=.returned (.bool (aQ lab al))∧Below W.heap.size W w'):=fun W hW=>(xL _ _ lab al W (hn.below hW) (ha.below hW) (fun x hx=>by have:=(DC.1 x hx).2;omega) (by omega) (by omega)).mono (by rintro e w' ⟨he,m,rfl⟩;exact⟨he,Go.below_drewN (aJ _ _) _⟩)
 have HL:Hid (aQ lab al=true->∀ W,Below w.heap.size w W->Calls Tryz.prog 56 #[.pointer (some ⟨bb,oo,none⟩),.slice na lab.length nc] W fun e w'=>∃ v,e=.returned v∧Nm.bP w' v (iG os lab)∧Below W.heap.size W w'):=fun hu W hW=>EX bb oo th rv os B _ lab W (OJ.out W hW).1 hl hd (OJ.out W hW).2 (hn.below hW) (by omega) (HC.out W hW).2 (by have:=hW.size;omega) (hT.hex hu)
 have HX:Hid (aQ lab al=true->∀ W,Below w.heap.size w W->Calls Tryz.prog 54 #[.pointer (some ⟨bb,oo,none⟩),.slice na lab.length nc] W fun e w'=>e=.returned (cutV (vR os lab (lab.length-al.length)))∧Below W.heap.size W w'):=fun hu W hW=>VQ bb oo th rv os B na nc lab aa al.length ac W (OJ.out W hW).1 hl hd (OJ.out W hW).2 (hn.below hW) (by omega) (HC.out W hW).2 (HC.out W hW).1 (by have:=hW.size;omega) (dJ.1 hu).1
 have HA:Hid (∀ W,Below w.heap.size w W->∀ a n c y,Nm.bP W (.slice a n c) y->y.length<=1000->Calls Tryz.prog 57 #[.pointer (some ⟨bb,oo,none⟩),.slice a n c,.int .i64 q] W (SoP (H6 os y q) W)):=fun W hW a n c y hy hyl=>I9 bb oo th rv os B a n c y q W (OJ.out W hW).1 hl hd (OJ.out W hW).2 hy hyl (HC.out W hW).2 (by have:=hW.size;omega) dM
 have HS:Hid (∀ c∈os,∀ W,Below w.heap.size w W->Calls Tryz.prog 55 #[.pointer (some ⟨c.dS,0,none⟩),.int .i64 2] W fun e W'=>∃ v ps,e=.returned v∧ps.map (·.1)=tZ c 2∧dF W' W.heap.size v ps∧Below W.heap.size W W'):=fun c oN W hW=>VV c 2 B W ((OJ.out W hW).1.jG c oN) (by have:=(hd.2 c oN).2.1;omega) (hd.2 c oN).1 (fun s hs=>by have:=((hd.2 c oN).2.2 s hs).2;omega)
 have HF:Hid (∀ W,Below w.heap.size w W->∀ a n c y,Nm.bP W (.slice a n c) y->Gl y->Calls Tryz.prog 29 #[.pointer (some ⟨bb,oo,none⟩),.slice a n c,.int .i64 39] W (G9 (lS (eH os) (mJ y) 39) W)):=fun W hW a n c y hy VM=>(VS bb oo th rv os B a n c y 39 W (OJ.out W hW).1 hl hd (OJ.out W hW).2 hy (by have:=Nm.bL y;have:=VM.2;omega) (HC.out W hW).2 (by have:=hW.size;omega)).mono (fun _ _ hp=>aP4 hT VM hp)
 have HI:Hid (∀ W,Below w.heap.size w W->∀ a n c y,Nm.bP W (.slice a n c) y->y.length<=1000->Calls Tryz.prog 60 #[.pointer (some ⟨bb,oo,none⟩),.slice a n c] W fun e w'=>e=.returned (.bool (VO y os))∧Below W.heap.size W w'):=fun W hW a n c y hy hyl=>VP bb oo th rv os B a n c y W (OJ.out W hW).1 hl hd (OJ.out W hW).2 hy (by omega) (HC.out W hW).2 (by have:=hW.size;omega)
 have HN:Hid (∀ W,Below w.heap.size w W->Nm.bP W (.slice na lab.length nc) lab):=fun W hW=>hn.below hW
 obtain⟨R,hR⟩:∃ R,R=lkT os al lab name q:=⟨_,rfl⟩;rw [<- hR];rw [lkT] at hR;unfold ptr at HC;have FQ:=HU.out _ b0;obtain⟨c0,c1⟩:=HC.out _ b0;obtain⟨W0,FH⟩:∃ W0,w.alloc (.cells yU 29)=W0:=⟨_,rfl⟩;rw [FH] at b0 k0 FQ c0 c1;have aG2:=at_len hd;clear h hd jD hn hc hca ha HU OJ;cases xR:aQ lab al
 ·rw [xR,if_neg (by decide)] at hR;rw [xR] at FQ;subst hR;clear xR HL HX HA HS HF HI;go_enter Tryz.func24,Tryz.ntmps24;go_wp2_with fail
  refine FQ.mono ?_;rintro e w1 ⟨rfl,b1⟩;have gP:=Nm.aC b0 b1;have k1:=aB k0 b1;have mM:w.heap.size<w1.heap.size:=cO k1;obtain⟨kX,MV,MW⟩:=kD (k:=1) (b:=false) (t:=⟨#[]⟩) k1 rfl (dF.nil _ _) mM (aI _) gP;have HX:Hid (List.map (·.1) ([]:List Zp)=(NZ 1).ss∧dF _ _ _ ([]:List Zp)∧Below _ _ _):=⟨rfl,MV,MW⟩;have rk:=aA k1
  have fk:=aF k1
  clear FQ k0 c0 c1 MV MW;simp only [bG,Nat.reduceAdd,Nat.zero_add] at kX HX;have rX:=aA kX
  clear kX;go_wp2_with fail
  refine eB (v:=.agg #[.int .i64 1,(.slice none 0 0),.bool false,.string ⟨#[]⟩]) ?_ rfl ⟨_,_,rfl,HX.out.1,HX.out.2.1,HX.out.2.2⟩;simp [results,Tryz.f24,go_sem,rX]
 rw [xR,if_pos rfl] at hR;rw [xR] at FQ
 replace HL:=Nm.aD (HL.out xR)
 replace HX:=Nm.aD (HX.out xR)
 rcases CS (lab:=lab) hT.iT (lab.length-al.length) with⟨e1,-⟩|⟨m,c,-,e1,oN,-⟩
 ·rw [e1] at hR HX
  replace hR:R=if(iG os lab).length=lab.length then H6 os lab q else match lS (eH os) (mJ (iG os lab)) 39 with
   |some s=>AP s (lT (lab.take (lab.length-(iG os lab).length)++(Nm.split (MU s.da)).getD []))
   |none=>if VO (JQ::iG os lab) os=true then Ct name (H6 os (JQ::iG os lab) q) else NZ 8:=hR
  obtain⟨kc,hkc,ekc⟩:=hT.H8 lab xR;have hgc:Gl (iG os lab):=by rw [ekc];exact DC.drop kc
  have sI:(iG os lab).length<=lab.length:=by rw [ekc,List.length_drop];omega
  have V5:(iG os lab).length≠lab.length->Gl (JQ::iG os lab):=fun dM=>by
   rw [ekc];refine Mg DC ?_ (by omega)
   rcases Nat.eq_zero_or_pos kc with rfl|h0
   ·rw [ekc,List.drop_zero] at dM;exact absurd rfl dM
   exact h0
  clear ekc hkc;generalize iG os lab=iK at*;simp only [cutV] at HX
  by_cases aEr:iK.length=lab.length
  ·rw [if_pos aEr] at hR;have i1:((iK.length:Int)==(lab.length:Int))=true:=by simp [aEr]
   have hA:=fun W (hW:Below w.heap.size w W)=>HA.out W hW na lab.length nc lab (HN.out W hW) (by omega)
   rw [<- hR] at hA;clear HS HF HI V5 HA hR aG2 sI;go_enter Tryz.func24,Tryz.ntmps24;go_wp2_with fail
   refine FQ.mono ?_;rintro e w1 ⟨rfl,b1⟩;have gP:=Nm.aC b0 b1;have k1:=aB k0 b1;clear FQ k0 c0 c1 b0 b1;go_wp2_with fail
   refine(HX.out _ gP).mono ?_;rintro e w2 ⟨rfl,b2⟩;have kH:=Nm.aC gP b2;have k2:=aB k1 b2;clear k1 b2 gP;go_wp2_with fail
   refine(HL.out _ kH).mono ?_;rintro e w3 ⟨v3,rfl,r3,b3⟩;obtain⟨ca,cc,rfl⟩:∃ a c,v3=.slice a iK.length c:=by(obtain⟨a,c,e,_⟩:=r3;exact⟨a,c,e⟩)
   have uC:=Nm.aC kH b3;have k3:=aB k2 b3;clear k2 b3 kH HX HL;go_wp2_with fail
   refine(hA _ uC).mono ?_;rintro e w4 ⟨v4,ps4,rfl,e4,z4,b4⟩;obtain⟨va,vc,rfl⟩:=aT z4.outer;have nN:=Nm.aC uC b4;have k4:=aB k3 b4;have mM:w.heap.size<w3.heap.size:=cO k3;obtain⟨kX,MV,MW⟩:=kD (k:=R.kd) (b:=R.wild) (t:=R.tgt) k4 rfl z4 mM (aI _) nN;have HX:=Nm.aD (aV e4 (aV MV MW));have rk:=aA k4
   have fk:=aF k4
   clear k3 b4 uC MV MW z4 e4 hA r3;simp only [bG,Nat.reduceAdd,Nat.zero_add] at kX HX;have rX:=aA kX
   clear kX;go_wp2_with fail
   refine eB (v:=.agg #[.int .i64 (R.kd),(.slice va ps4.length vc),.bool (R.wild),.string (R.tgt)]) ?_ rfl ⟨_,_,rfl,HX.out.1,HX.out.2.1,HX.out.2.2⟩;simp [results,Tryz.f24,go_sem,rX]
  rw [if_neg aEr] at hR;have i1:((iK.length:Int)==(lab.length:Int))=false:=by simp;omega
  have bY:iK.length<lab.length:=by omega
  cases hf:lS (eH os) (mJ iK) 39 with
  |some s=>
   obtain⟨⟨d0,rest,hsd⟩,zs,hzq,hds⟩:(∃ d0 rest,s.da=d0::rest)∧∃ zs,Nm.split (MU s.da)=some zs∧(MU s.da).size<=1000000000:=by
    have hf':=hf;rw [lS] at hf';have hm:=List.mem_of_find?_eq_some hf';have hp:=List.find?_some hf';obtain⟨g,mD,rfl⟩:=kJ hm;obtain⟨g2,g3⟩:=fT.1 mD;simp only [Bool.and_eq_true,decide_eq_true_eq] at hp;obtain⟨zs,hz⟩:=Ry g.1 g2 g.2 g3 hp.1;obtain⟨n1,n2⟩:=dM g.1 g2 g.2 g3;refine⟨?_,zs,hz,n2⟩
    cases MN:g.2.da with
    |nil=>rw [MN] at n1;simp at n1
    |cons x r=>exact⟨x.2,r.map (·.2),by simp [mO,MN]⟩
   have Gv:MU s.da=d0:=by rw [hsd];rfl
   rw [Gv] at hzq hds;rw [hf] at hR
   replace hR:R=AP s (lT (lab.take (lab.length-iK.length)++(Nm.split (MU s.da)).getD [])):=hR
   rw [Gv,hzq,Option.getD_some] at hR;have hF:=fun W (hW:Below w.heap.size w W) a n c (hy:Nm.bP W (.slice a n c) iK)=>(HF.out W hW a n c iK hy hgc).mono (R':=fun e w'=>∃ v,e=.returned (.tuple #[.agg #[.string s.own,.int .i64 s.ty,.int .i64 s.tt,v],.bool true])∧w'.ownsRow W.heap.size 9 1 v s.da.length (s.da.map Value.string)∧Below W.heap.size W w') (fun e w' h=>by rw [hf] at h;exact h)
   have hTs:=fun ca cc u B W (h1:Nm.bP W (.slice na lab.length nc) lab) h2 h3=>Mk lab iK na ca nc cc s u d0 rest zs B W h1 DC bY hsd hzq (by unfold maxLen;omega) h2 h3
   rw [<- hR] at hTs
   obtain⟨hRs,hRw⟩:R.ss=[s]∧R.wild=false:=by
    rw [hR]
    rcases V4 s (lT (lab.take (lab.length-iK.length)++zs)) with⟨-,e⟩|⟨-,e⟩<;>rw [e]<;>exact⟨rfl,rfl⟩
   clear HS HF HI V5 HA hR aG2 sI hf Gv hzq hds hsd hgc;obtain⟨rkd,rss,rwl,rtg⟩:=R;simp only at hRs hRw hTs
   subst hRs hRw;go_enter Tryz.func24,Tryz.ntmps24;go_wp2_with fail
   refine FQ.mono ?_;rintro e w1 ⟨rfl,b1⟩;have gP:=Nm.aC b0 b1;have k1:=aB k0 b1;clear FQ k0 c0 c1 b0 b1;go_wp2_with fail
   refine(HX.out _ gP).mono ?_;rintro e w2 ⟨rfl,b2⟩;have kH:=Nm.aC gP b2;have k2:=aB k1 b2;clear k1 b2 gP;go_wp2_with fail
   refine(HL.out _ kH).mono ?_;rintro e w3 ⟨v3,rfl,r3,b3⟩;obtain⟨ca,cc,rfl⟩:∃ a c,v3=.slice a iK.length c:=by(obtain⟨a,c,e,_⟩:=r3;exact⟨a,c,e⟩)
   have uC:=Nm.aC kH b3;have k3:=aB k2 b3;clear k2 b3 kH HX HL;go_wp2_with fail
   refine(hF _ uC _ _ _ r3).mono ?_;rintro e w4 ⟨v4,rfl,o4,b4⟩;obtain⟨ua,uc,rfl⟩:=aT o4;have cA:=(aJ w4.heap.size w4).alloc (aI _) (.cells #[.string s.own,.int .i64 s.ty,.int .i64 s.tt,.slice ua s.da.length uc] 42);have c4:=Nm.aC b4 cA;have nN:=Nm.aC uC c4;have k4:=aB k3 c4;have o4A:=own_below o4 cA;have mM:w.heap.size<w3.heap.size:=cO k3;have aP5:=hTs ca cc _ w3.heap.size _ (HN.out _ nN) o4A c4.size;clear hTs hF r3 b4 cA k3 uC o4 o4A;go_wp2_with fail
   refine aP5.mono ?_;rintro e w5 ⟨v5,rfl,z5,b5⟩;obtain⟨va,vc,hv5⟩:=aT z5.outer;simp only [List.length_cons,List.length_nil,Nat.zero_add] at hv5;subst hv5;have WH:=Nm.aC nN b5;have k5:=aB k4 b5;obtain⟨kX,MV,MW⟩:=kD (k:=rkd) (b:=false) (t:=rtg) k5 rfl z5 mM (aI _) WH;have HX:Hid (List.map (·.1) [(s,Value.slice ua s.da.length uc)]=[s]∧dF _ _ _ [(s,Value.slice ua s.da.length uc)]∧Below _ _ _):=⟨rfl,MV,MW⟩;have rk:=aA k5
   have fk:=aF k5
   clear aP5 k4 b5 nN MV MW z5 c4;simp only [bG,Nat.reduceAdd,Nat.zero_add] at kX HX;have rX:=aA kX
   clear kX;go_wp2_with fail
   refine eB (v:=.agg #[.int .i64 rkd,(.slice va 1 vc),.bool false,.string rtg]) ?_ rfl ⟨_,_,rfl,HX.out.1,HX.out.2.1,HX.out.2.2⟩
   simp [results,Tryz.f24,go_sem,rX]
  |none=>
   rw [hf] at hR
   replace hR:R=if VO (JQ::iK) os=true then Ct name (H6 os (JQ::iK) q) else NZ 8:=hR
   have hF:=fun W (hW:Below w.heap.size w W) a n c (hy:Nm.bP W (.slice a n c) iK)=>(HF.out W hW a n c iK hy hgc).mono (R':=fun e w'=>∃ v,e=.returned (.tuple #[.agg #[.string ⟨#[]⟩,.int .i64 0,.int .i64 0,v],.bool false])∧(∃ a c,v=.slice a 0 c)∧Below W.heap.size W w') (fun e w' h=>by
    rw [hf] at h;obtain⟨v,h1,h2,h3⟩:=h
    exact⟨v,h1,aT h2,h3⟩)
   cases MR:VO (JQ::iK) os with
   |true=>
    rw [MR,if_pos rfl] at hR;have hA:=fun W (hW:Below w.heap.size w W) a n c (hy:Nm.bP W (.slice a n c) (JQ::iK))=>HA.out W hW a n c (JQ::iK) hy (by simp;omega)
    have Zi:=aG2 (JQ::iK) q;have hw2:=DC.2;generalize H6 os (JQ::iK) q=Y at*;have hE:R=⟨Y.kd,Y.ss.map (MF name),true,Y.tgt⟩:=hR;subst hE;clear HS HF HA hR hf hgc V5 aG2 sI;go_enter Tryz.func24,Tryz.ntmps24;go_wp2_with fail
    refine FQ.mono ?_;rintro e w1 ⟨rfl,b1⟩;have gP:=Nm.aC b0 b1;have k1:=aB k0 b1;clear FQ k0 c0 c1 b0 b1;go_wp2_with fail
    refine(HX.out _ gP).mono ?_;rintro e w2 ⟨rfl,b2⟩;have kH:=Nm.aC gP b2;have k2:=aB k1 b2;clear k1 b2 gP;go_wp2_with fail
    refine(HL.out _ kH).mono ?_;rintro e w3 ⟨v3,rfl,r3,b3⟩;obtain⟨ca,cc,rfl⟩:∃ a c,v3=.slice a iK.length c:=by(obtain⟨a,c,e,_⟩:=r3;exact⟨a,c,e⟩)
    have uC:=Nm.aC kH b3;have k3:=aB k2 b3;clear k2 b3 kH HX HL;go_wp2_with fail
    refine(hF _ uC _ _ _ r3).mono ?_;rintro e w4 ⟨v4,rfl,⟨ua,uc,rfl⟩,b4⟩;have cA:=(aJ w4.heap.size w4).alloc (aI _) (.cells #[.string ⟨#[]⟩,.int .i64 0,.int .i64 0,.slice ua 0 uc] 42);have c4:=Nm.aC b4 cA;have nN:=Nm.aC uC c4;have k4:=aB k3 c4;have r4:=r3.below c4;obtain⟨W4,hW4⟩:∃ W4,w4.alloc (.cells #[.string ⟨#[]⟩,.int .i64 0,.int .i64 0,.slice ua 0 uc] 42)=W4:=⟨_,rfl⟩;rw [hW4] at c4 nN k4 r4;have o5:=World.ownsRow_lit (base:=w.heap.size) (e:=9) (size:=1) W4 #[.string JQ] 1 nN.size (by decide) rfl;have cB:=(aJ W4.heap.size W4).alloc (aI _) (.cells #[.string JQ] 9);have WH:=Nm.aC nN cB;have k5:=aB k4 cB;have VD:=Aq _ _ [JQ] iK _ (Nm.bP.aP (ls:=[JQ]) o5) (r4.below cB) (by simp) (by omega);clear r3 b4 cA k3 uC r4 c4 k4 nN cB o5 hF;go_wp2_with fail
    refine VD.mono ?_;rintro e w6 ⟨t6,rfl,o6,b6⟩;have r6:Nm.bP w6 t6 (JQ::iK):=Nm.bP.aP o6;obtain⟨ta,m6,tc,rfl⟩:∃ a m c,t6=.slice a m c:=by(obtain⟨a,c,e⟩:=aT o6;exact⟨a,_,c,e⟩)
    have Qq:=Nm.aC WH b6;have k6:=aB k5 b6;have hit:=HI.out _ Qq ta m6 tc (JQ::iK) r6 (by simp;omega);rw [MR] at hit;clear k5 WH b6 VD o6 HI;go_wp2_with fail
    refine hit.mono ?_;rintro e w7 ⟨rfl,b7⟩;have bw7:=Nm.aC Qq b7;have k7:=aB k6 b7;have r7:=r6.below b7;clear hit k6 Qq b7 r6;go_wp2_with fail
    refine(hA _ bw7 _ _ _ r7).mono ?_;rintro e w8 ⟨v8,ps8,rfl,e8,z8,b8⟩;obtain⟨va,vc,rfl⟩:=aT z8.outer;have bw8:=Nm.aC bw7 b8;have k8:=aB k7 b8;have mM:w.heap.size<w7.heap.size:=cO k7;have nZ:ps8.length<=1000000:=by rw [<- e8,List.length_map] at Zi;omega
    have haw:=I_ Y.kd Y.wild Y.tgt name _ ps8 w7.heap.size (.slice na lab.length nc) lab w8 (fun X hX=>HN.out X (bw8.trans (hX.mono (by omega)))) hw2 hj z8 b8.size nZ;clear hA k7 r7 b8 Zi z8;go_wp2_with fail
    refine haw.mono ?_;rintro e w9 ⟨ps9,rfl,e9,z9,b9⟩;have hpe:ps9.length=ps8.length:=by have:=congrArg List.length e9;simpa using this
    have e9':ps9.map (·.1)=Y.ss.map (MF name):=by rw [e9,e8]
    have bw9:Below w.heap.size w w9:=bw8.trans (b9.mono (by omega));have k9:bW w9 w.heap.size yU 29:=(b9.block _ mM).trans k8;obtain⟨kX,MV,MW⟩:=kD (k:=Y.kd) (b:=true) (t:=Y.tgt) k9 rfl z9 mM (aI _) bw9;have HX:=Nm.aD (aV e9' (aV MV MW));have rk:=aA k9
    have fk:=aF k9
    clear haw k8 b9 bw8 MV MW z9 e9 e9' e8 hpe nZ;simp only [bG,Nat.reduceAdd,Nat.zero_add] at kX HX;have rX:=aA kX
    clear kX;go_wp2_with fail
    refine eB (v:=.agg #[.int .i64 (Y.kd),(.slice va ps8.length vc),.bool true,.string (Y.tgt)]) ?_ rfl ⟨_,_,rfl,HX.out.1,HX.out.2.1,HX.out.2.2⟩
    simp [results,Tryz.f24,go_sem,rX]
   |false=>
    rw [MR,if_neg (by decide)] at hR;subst hR;clear HS HF HA hf hgc V5 aG2 sI;go_enter Tryz.func24,Tryz.ntmps24;go_wp2_with fail
    refine FQ.mono ?_;rintro e w1 ⟨rfl,b1⟩;have gP:=Nm.aC b0 b1;have k1:=aB k0 b1;clear FQ k0 c0 c1 b0 b1;go_wp2_with fail
    refine(HX.out _ gP).mono ?_;rintro e w2 ⟨rfl,b2⟩;have kH:=Nm.aC gP b2;have k2:=aB k1 b2;clear k1 b2 gP;go_wp2_with fail
    refine(HL.out _ kH).mono ?_;rintro e w3 ⟨v3,rfl,r3,b3⟩;obtain⟨ca,cc,rfl⟩:∃ a c,v3=.slice a iK.length c:=by(obtain⟨a,c,e,_⟩:=r3;exact⟨a,c,e⟩)
    have uC:=Nm.aC kH b3;have k3:=aB k2 b3;clear k2 b3 kH HX HL;go_wp2_with fail
    refine(hF _ uC _ _ _ r3).mono ?_;rintro e w4 ⟨v4,rfl,⟨ua,uc,rfl⟩,b4⟩;have cA:=(aJ w4.heap.size w4).alloc (aI _) (.cells #[.string ⟨#[]⟩,.int .i64 0,.int .i64 0,.slice ua 0 uc] 42);have c4:=Nm.aC b4 cA;have nN:=Nm.aC uC c4;have k4:=aB k3 c4;have r4:=r3.below c4;obtain⟨W4,hW4⟩:∃ W4,w4.alloc (.cells #[.string ⟨#[]⟩,.int .i64 0,.int .i64 0,.slice ua 0 uc] 42)=W4:=⟨_,rfl⟩;rw [hW4] at c4 nN k4 r4;have o5:=World.ownsRow_lit (base:=w.heap.size) (e:=9) (size:=1) W4 #[.string JQ] 1 nN.size (by decide) rfl;have cB:=(aJ W4.heap.size W4).alloc (aI _) (.cells #[.string JQ] 9);have WH:=Nm.aC nN cB;have k5:=aB k4 cB;have VD:=Aq _ _ [JQ] iK _ (Nm.bP.aP (ls:=[JQ]) o5) (r4.below cB) (by simp) (by omega);clear r3 b4 cA k3 uC r4 c4 k4 nN cB o5 hF;go_wp2_with fail
    refine VD.mono ?_;rintro e w6 ⟨t6,rfl,o6,b6⟩;have r6:Nm.bP w6 t6 (JQ::iK):=Nm.bP.aP o6;obtain⟨ta,m6,tc,rfl⟩:∃ a m c,t6=.slice a m c:=by(obtain⟨a,c,e⟩:=aT o6;exact⟨a,_,c,e⟩)
    have Qq:=Nm.aC WH b6;have k6:=aB k5 b6;have hit:=HI.out _ Qq ta m6 tc (JQ::iK) r6 (by simp;omega);rw [MR] at hit;clear k5 WH b6 VD o6 HI;go_wp2_with fail
    refine hit.mono ?_;rintro e w7 ⟨rfl,b7⟩;have bw7:=Nm.aC Qq b7;have k7:=aB k6 b7;have r7:=r6.below b7;clear hit k6 Qq b7 r6;have mM:w.heap.size<w7.heap.size:=cO k7;obtain⟨kX,MV,MW⟩:=kD (k:=8) (b:=false) (t:=⟨#[]⟩) k7 rfl (dF.nil _ _) mM (aI _) bw7;have HX:Hid (List.map (·.1) ([]:List Zp)=(NZ 8).ss∧dF _ _ _ ([]:List Zp)∧Below _ _ _):=⟨rfl,MV,MW⟩;have rk:=aA k7
    have fk:=aF k7
    clear MV MW r7;simp only [bG,Nat.reduceAdd,Nat.zero_add] at kX HX;have rX:=aA kX
    clear kX;go_wp2_with fail
    refine eB (v:=.agg #[.int .i64 8,(.slice none 0 0),.bool false,.string ⟨#[]⟩]) ?_ rfl ⟨_,_,rfl,HX.out.1,HX.out.2.1,HX.out.2.2⟩;simp [results,Tryz.f24,go_sem,rX]
 rw [e1] at hR HX;have hE:R=⟨2,tZ c 2,false,⟨#[]⟩⟩:=hR;subst hE;have hsf:=HS.out c oN;simp only [cutV] at HX;unfold ptr at HX;clear xR HL HA HS HF HI hR;go_enter Tryz.func24,Tryz.ntmps24;go_wp2_with fail
 refine FQ.mono ?_;rintro e w1 ⟨rfl,b1⟩;have gP:=Nm.aC b0 b1;have k1:=aB k0 b1;clear FQ k0 c0 c1 b0 b1;go_wp2_with fail
 refine(HX.out _ gP).mono ?_;rintro e w2 ⟨rfl,b2⟩;have kH:=Nm.aC gP b2;have k2:=aB k1 b2;clear k1 b2 gP;go_wp2_with fail
 refine(hsf _ kH).mono ?_;rintro e w3 ⟨v3,Du,rfl,e3,z3,b3⟩;obtain⟨va,vc,rfl⟩:=aT z3.outer;have uC:=Nm.aC kH b3;have k3:=aB k2 b3;have mM:w.heap.size<w2.heap.size:=cO k2;obtain⟨kX,MV,MW⟩:=kD (k:=2) (b:=false) (t:=⟨#[]⟩) k3 rfl z3 mM (aI _) uC;have HX:=Nm.aD (aV e3 (aV MV MW));have rk:=aA k3
 have fk:=aF k3
 clear k2 b3 kH MV MW z3 e3;simp only [bG,Nat.reduceAdd,Nat.zero_add] at kX HX;have rX:=aA kX
 clear kX;go_wp2_with fail
 refine eB (v:=.agg #[.int .i64 2,(.slice va Du.length vc),.bool false,.string ⟨#[]⟩]) ?_ rfl ⟨_,_,rfl,HX.out.1,HX.out.2.1,HX.out.2.2⟩;simp [results,Tryz.f24,go_sem,rX]
theorem name39{d:ByteArray}(h:fH 39 d=0):∃ zs,Nm.split d=some zs:=by
 have h1:(Dt.spans [.nm] 0 d).isSome=true:=by
  rw [fH,if_neg (by omega)] at h
  split at h
  ·cases h
  split at h
  ·rename_i h2;exact h2
  cases h
 rw [Dt.spans] at h1
 cases hs:Dt.sz .nm d with
 |none=>rw [hs] at h1;cases h1
 |some n=>
  rw [hs] at h1;simp only [Option.isSome_map] at h1
  have hn:n=(Dt.dQ d).size∧(Dt.dQ d).size≠0:=by
   change (if(Dt.dQ d).size=0 then none else some (Dt.dQ d).size)=some n at hs
   split at hs
   ·cases hs
   rename_i h0;simp only [mV] at hs;exact⟨hs.symm,h0⟩
  have hle:(Dt.dQ d).size<=d.size:=Dt.Nw 256 d 0;rw [Dt.spans] at h1
  have he:(d.extract n d.size).size=0:=by
   split at h1
   ·rename_i h2;exact h2
   cases h1
  rw [ByteArray.size_extract] at he;have:=(Dt.GX d).2 ⟨hn.2,by omega⟩;exact Option.isSome_iff_exists.1 this
section
variable {list:List Rr}{o:ByteArray}{bb:Nat}{lv:Value}{th:Nat}{ys:List ByteArray}{aa:Option Addr}{ac:Nat}{eD rv:Value}{os:List dG}{kv:Value}{ks:List Ld}{B:Nat}{W:World}
theorem P3.full(hP:P3 list o bb lv th ys aa ac eD rv os kv ks B W):∀ c∈os,∀ s∈c.ss,0<s.da.length:=by
 intro c hc s hs;have hT:=hP.st.inv;obtain⟨x,hF,-⟩:=hT.set c hc s hs;obtain⟨c',AX,h1,s',Xq,h2,p,hp,-⟩:=hT.cov x hF.mem;have e1:c'=c:=hT.one AX hc (by rw [<- dB h1];exact hF.2.1.1);subst e1;have e2:s'=s:=(hT.sorted.2 c' AX).1.one Xq hs (by rw [h2];exact hF.2.1.2);subst e2;exact List.length_pos_of_mem hp
theorem P3.d39(hP:P3 list o bb lv th ys aa ac eD rv os kv ks B W):∀ c∈os,∀ s∈c.ss,s.ty=39->∃ zs,Nm.split (MU (mO (c,s)).da)=some zs:=by
 intro c hc s hs Ry;have h0:=hP.full c hc s hs
 obtain⟨p,r,MN⟩:∃ p r,s.da=p::r:=by
  cases hx:s.da with
  |nil=>rw [hx] at h0;simp at h0
  |cons p r=>exact⟨p,r,rfl⟩
 obtain⟨i,x,hF,hx⟩:=hP.st.inv.dat c hc s hs p (by rw [MN];simp);have e:MU (mO (c,s)).da=x.r.da:=by simp [MU,mO,MN,hx]
 rw [e];obtain⟨r',Mw,rfl⟩:=kJ hF.mem;have h1:=CQ _ _ hP.ok r' Mw
 have tT:r'.ty=39:=by
  have:=hF.2.1.1.2;rw [Ry] at this;exact this
 have h2:fH 39 r'.da=0:=by
  rw [pW] at h1
  split at h1
  ·cases h1
  split at h1
  ·cases h1
  split at h1
  ·cases h1
  split at h1
  ·cases h1
  split at h1
  ·cases h1
  rename_i h9;rw [tT] at h9;exact Decidable.not_not.1 h9
 exact name39 h2
end
def Fy(ps:List Zp)(o name:ByteArray)(q:Int):Prop:=AO ps o=true∧(Nm.split name).isSome=true∧1<=q∧q<=65535
open Classical in
noncomputable def V6 (ps:List Zp) (o name:ByteArray) (q:Int):Stp×Int:=if Fy ps o name q then(Nf ps o name q,0) else(NZ 0,32)
def OqP(ps:List Zp)(o name:ByteArray)(q:Int)(w:World)(e:Ending)(w':World):Prop:=Below w.heap.size w w'∧
 ((¬Fy ps o name q∧e=.returned (.tuple #[.pointer none,.slice none 0 0,.bool false]))∨
  (Fy ps o name q∧∃ bb lv th ys aa ac eD rv os kv ks B la lc lab,e=.returned (.tuple #[.pointer (some ⟨bb,3,none⟩),.slice la (List.length lab) lc,.bool true])∧Nm.split name=some lab∧P3 (aR ps) o bb lv th ys aa ac eD rv os kv ks B w'∧Nm.bP w' (.slice la lab.length lc) lab))
theorem Fz(o name:ByteArray)(q:Int)(v:Value)(ps:List Zp)(w:World)(h:gG w v ps)(hs:wP ps<=1048576)(hf:∀ p∈ps,p.1.own.size<=1048576∧∀ x∈p.1.da,x.size<=1048576)(ha:o.size<=1000000000)(hn:name.size<=1000000000):
 Calls Tryz.prog 23 #[.agg #[.string o,v],.string name,.int .i64 q] w (OqP ps o name q w):=by
 obtain⟨va,vc,rfl⟩:=mX h;have b0:=(aJ w.heap.size w).alloc (aI _) (.cells #[.string o,.slice va ps.length vc] 25);have k0:=aK w #[.string o,.slice va ps.length vc] 25;have Ga:=xD o (.slice va ps.length vc) ps _ (h.below b0) hs hf ha;have lC:=fun W=>nK name W (by unfold maxLen;omega)
 have C8:=fun W=>NH q 65535 W
 have r0:=aA k0
 have HB:Hid (∀ e w',Below w.heap.size w w'->¬Fy ps o name q->e=.returned (.tuple #[.pointer none,.slice none 0 0,.bool false])->OqP ps o name q w e w'):=fun e w' h1 h2 h3=>⟨h1,.inl ⟨h2,h3⟩⟩
 clear h hf hs;go_enter Tryz.func23,Tryz.ntmps23;go_wp2_with fail
 refine Ga.mono ?_;rintro e w1 ⟨fJ,⟨hz,rfl⟩|⟨hz,bb,lv,th,ys,aa,ac,eD,rv,os,kv,ks,B,rfl,hP⟩⟩
 ·have gP:=Nm.aC b0 fJ;have HN:Hid (¬Fy ps o name q):=fun hh=>by rw [hh.1] at hz;cases hz
  clear hz Ga k0 b0 fJ r0;go_wp2_with fail
  refine(lC _).mono ?_;rintro e w2 ⟨lv,rfl,qY,b2⟩;generalize (Nm.split name).isSome=SB at*;generalize (Nm.split name).getD []=SL at*;obtain⟨la,lc,rfl⟩:=aT qY;clear qY lC;go_wp2;go_ret3;exact HB.out _ _ (Nm.aC gP b2) HN.out rfl
 have gP:=Nm.aC b0 fJ;clear Ga k0 b0 fJ r0;go_wp2_with fail
 refine(lC _).mono ?_;rintro e w2 ⟨lv',rfl,qY,b2⟩;have kH:=Nm.aC gP b2;have Dn:=hP.below b2
 cases xM:Nm.split name with
 |none=>
  rw [xM] at qY;have HN:Hid (¬Fy ps o name q):=fun hh=>by have:=hh.2.1;rw [xM] at this;cases this
  obtain⟨la,lc,rfl⟩:=aT qY;simp only [Option.isSome_none,Option.getD_none,List.length_nil] at qY ⊢;clear hz hP Dn lC xM gP qY;go_wp2;go_ret3
  exact HB.out _ _ kH HN.out rfl
 |some lab=>
  rw [xM] at qY;simp only [Option.getD_some] at qY;obtain⟨la,lc,rfl⟩:=aT qY;have dI:=Nm.bP.aP qY;simp only [Option.isSome_some]
  by_cases IK:q=0
  ·have HN:Hid (¬Fy ps o name q):=fun hh=>by have:=hh.2.2.1;omega
   have i1:(q==0)=true:=by simpa using IK
   clear hz hP Dn lC xM gP qY dI IK;go_wp2;go_ret3;exact HB.out _ _ kH HN.out rfl
  have i1:(q==0)=false:=by simpa using IK
  by_cases uB:0<=q∧q<=65535
  ·have e1:(decide (0<=q)&&decide (q<=65535))=true:=by simp [uB.1,uB.2]
   rw [e1] at C8;have HG:Hid (OqP ps o name q w (.returned (.tuple #[.pointer (some ⟨bb,3,none⟩),.slice la lab.length lc,.bool true])) w2):=⟨kH,.inr ⟨⟨hz,by rw [xM];rfl,by omega,uB.2⟩,bb,lv,th,ys,aa,ac,eD,rv,os,kv,ks,B,la,lc,lab,rfl,xM,Dn,dI⟩⟩;clear hz hP Dn lC xM gP qY dI IK e1 uB;go_wp2_with (go_at_call 52;refine(C8 _).mono ?_;rintro e wf ⟨rfl,hw⟩;obtain rfl:=hw.symm;clear hw)
   go_ret3;exact HG.out
  have e1:(decide (0<=q)&&decide (q<=65535))=false:=by
   rw [Bool.and_eq_false_iff,decide_eq_false_iff_not,decide_eq_false_iff_not];omega
  rw [e1] at C8;have HN:Hid (¬Fy ps o name q):=fun hh=>uB ⟨by have:=hh.2.2.1;omega,hh.2.2.2⟩
  clear hz hP Dn lC xM gP qY dI IK e1 uB;go_wp2_with (go_at_call 52;refine(C8 _).mono ?_;rintro e wf ⟨rfl,hw⟩;obtain rfl:=hw.symm;clear hw)
  go_ret3;exact HB.out _ _ kH HN.out rfl
