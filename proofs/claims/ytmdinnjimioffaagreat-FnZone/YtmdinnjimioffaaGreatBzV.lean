import Derived.Test.YtmdinnjimioffaaGreatBzY
import Derived.Test.YtmdinnjimioffaaGreatJBzS
import Derived.Test.YtmdinnjimioffaaGreatJBzFWild
namespace Go.Proofs.YtmdinnjimioffaaGreat
open Go.RowKit
set_option linter.unusedVariables false
theorem bad_none{apex:ByteArray}:∀ (l:List Rr) (i:Nat),badOne apex l i=none->∀ r∈l,oneC r apex=0:=by
 intro l
 induction l with
 |nil=>intro i _ r hr;cases hr
 |cons x l ih=>
  intro i h r hr;rw [badOne] at h
  by_cases hx:oneC x apex=0
  ·rw [if_pos hx] at h
   rcases List.mem_cons.1 hr with rfl|hr
   ·exact hx
   ·exact ih (i+1) h r hr
  ·rw [if_neg hx] at h;cases h
theorem bad_some{apex:ByteArray}:∀ (l:List Rr) (i:Nat) (c:Int) (j:Nat),badOne apex l i=some (c,j)->c≠0:=by
 intro l
 induction l with
 |nil=>intro i c j h;simp [badOne] at h
 |cons x l ih=>
  intro i c j h;rw [badOne] at h
  by_cases hx:oneC x apex=0
  ·rw [if_pos hx] at h;exact ih (i+1) c j h
  ·rw [if_neg hx] at h;simp at h;rw [<- h.1];exact hx
theorem one_ok{r:Rr}{apex:ByteArray}(h:oneC r apex=0):(Nm.split r.own).isSome=true∧isUnderS r.own apex=true:=by
 rw [oneC] at h
 split at h
 ·cases h
 ·rename_i h1;refine⟨by cases hq:(Nm.split r.own).isSome with|true=>rfl|false=>exact absurd hq h1,?_⟩
  split at h
  ·cases h
  ·split at h
   ·cases h
   ·split at h
    ·cases h
    ·split at h
     ·cases h
     ·split at h
      ·cases h
      ·rename_i h2;simpa using h2
structure P3 (list:List Rr) (apex:ByteArray) (bb:Nat) (lv:Value) (th:Nat) (ys:List ByteArray) (aa:Option Addr) (ac:Nat) (labv rv:Value) (os:List GOw) (kv:Value) (ks:List Ld) (B:Nat) (W:World):Prop where
 kb:Blk W bb #[lv,.string apex,labv,.slice aa ys.length ac,ptr th,kv] 73
 st:BSt B W th (list.map itemOf) rv os kv ks
 ap:Nm.split apex=some ys
 av:Nm.SRow W (.slice aa ys.length ac) ys
 hl:list.length<=500
 ok:badOne apex list 0=none
 mix:∀ (i:Nat) (y:It),(list.map itemOf)[i]? =some y->mixI ((list.map itemOf).take i) y=false
theorem P3.below{list:List Rr}{apex:ByteArray}{bb:Nat}{lv:Value}{th:Nat}{ys:List ByteArray}{aa:Option Addr}{ac:Nat}{labv rv:Value}{os:List GOw}{kv:Value}{ks:List Ld}{B:Nat}{W W':World}(h:P3 list apex bb lv th ys aa ac labv rv os kv ks B W)(hb:Below W.heap.size W W'):P3 list apex bb lv th ys aa ac labv rv os kv ks B W':=
 ⟨blk_below h.kb hb,h.st.below hb,h.ap,h.av.below hb,h.hl,h.ok,h.mix⟩
theorem P3.good{list:List Rr}{apex:ByteArray}{bb:Nat}{lv:Value}{th:Nat}{ys:List ByteArray}{aa:Option Addr}{ac:Nat}{labv rv:Value}{os:List GOw}{kv:Value}{ks:List Ld}{B:Nat}{W:World}(h:P3 list apex bb lv th ys aa ac labv rv os kv ks B W):(∀ y∈list.map itemOf,GoodI y)∧∀ y∈list.map itemOf,isUnderS y.r.own apex=true:=by
 constructor<;>intro y hy<;>obtain⟨r,hr,rfl⟩:=List.mem_map.1 hy
 ·exact good_item (one_ok (bad_none _ _ h.ok r hr)).1
 ·exact(one_ok (bad_none _ _ h.ok r hr)).2
theorem P3.one{list:List Rr}{apex:ByteArray}{bb:Nat}{lv:Value}{th:Nat}{ys:List ByteArray}{aa:Option Addr}{ac:Nat}{labv rv:Value}{os:List GOw}{kv:Value}{ks:List Ld}{B:Nat}{W:World}(h:P3 list apex bb lv th ys aa ac labv rv os kv ks B W){k:Ld}(hk:k∈ks):
 ∃ x o s,(list.map itemOf)[k.at_]? =some x∧k.ty=x.r.ty∧o∈os∧k.ob=o.blk∧OfO o.lab x∧s∈o.ss∧k.sb=s.blk∧s.ty=x.r.ty:=by
 obtain⟨x,h1,h2,o,ho,h3,h4,s,hs,h5,h6⟩:=h.st.kin.ok k hk;exact⟨x,o,s,h1,h2,ho,h3.symm,h4,hs,h5.symm,h6⟩
theorem askK_at{l:List It}{p:Nat->It->Bool}{k:Ld}{x:It}(h:l[k.at_]? =some x):askK l p k=p k.at_ x:=by rw [askK,h]
def rVal(o:Option Nat)(code:Int):Int×Int:=match o with
 |some i=>(code,i)
 |none=>(0,0)
theorem fst_ending{l:List It}{os:List GOw}{ks:List Ld}(hK:KInv l os ks)(hl:∀ y∈l,GoodI y)(p:Nat->It->Bool)(hp:∀ i x,x.out=true->p i x=false)(code:Int):Ending.returned (fstR (askK l p) code ks)=rsV (rVal (firstI p (twI l)) code).1 (rVal (firstI p (twI l)) code).2:=by
 rw [fst_rule hK hl p hp code];cases firstI p (twI l)<;>rfl
theorem wild_P3{list:List Rr}{apex:ByteArray}{bb:Nat}{lv:Value}{th:Nat}{ys:List ByteArray}{aa:Option Addr}{ac:Nat}{labv rv:Value}{os:List GOw}{kv:Value}{ks:List Ld}{B:Nat}{W:World}(h:P3 list apex bb lv th ys aa ac labv rv os kv ks B W):
 Calls Tryz.prog 60 #[.pointer (some ⟨bb,0,none⟩)] W fun e w'=>e=rsV (rVal (firstI (fun _ x=>ru2 x) (itsOf list)) 26).1 (rVal (firstI (fun _ x=>ru2 x) (itsOf list)) 26).2∧Below W.heap.size W w':=by
 have hkl:=h.st.kin.len;rw [List.length_map] at hkl;have:=h.hl;refine(checkWild_any bb kv ks (askK (list.map itemOf) (fun _ x=>ru2 x)) W ((blk_cell h.kb 5).trans rfl) (CRow.of_owns h.st.kept) (by omega) (fun k hk W' hW=>?_)).mono ?_
 ·obtain⟨x,o,s,h1,h2,ho,h3,h4,hs,h5,h6⟩:=h.one hk;have ow:=(h.below hW).st.tr.owners o ho;have hn:=ow.node;rw [<- h3] at hn;refine(wild1_any k _ _ _ _ o.lab W' hn (((h.below hW).st.lab o ho).row)).mono ?_;rintro e w' ⟨rfl,hb⟩;refine⟨?_,hb⟩;rw [askK_at h1,h2,rule_wild h.st.inv h.good.1 h1 ho h4]
 ·rintro e w' ⟨rfl,hb⟩;exact⟨fst_ending h.st.kin h.good.1 _ (fun i x hx=>by rw [ru2,hx];rfl) 26,hb⟩
theorem single_P3{list:List Rr}{apex:ByteArray}{bb:Nat}{lv:Value}{th:Nat}{ys:List ByteArray}{aa:Option Addr}{ac:Nat}{labv rv:Value}{os:List GOw}{kv:Value}{ks:List Ld}{B:Nat}{W:World}(h:P3 list apex bb lv th ys aa ac labv rv os kv ks B W):
 Calls Tryz.prog 61 #[.pointer (some ⟨bb,0,none⟩)] W fun e w'=>e=rsV (rVal (firstI (ru3 (itsOf list)) (itsOf list)) 23).1 (rVal (firstI (ru3 (itsOf list)) (itsOf list)) 23).2∧Below W.heap.size W w':=by
 have hkl:=h.st.kin.len;rw [List.length_map] at hkl;have:=h.hl;refine(checkSingle_any bb kv ks (askK (list.map itemOf) (ru3 (itsOf list))) W ((blk_cell h.kb 5).trans rfl) (CRow.of_owns h.st.kept) (by omega) (fun k hk W' hW=>?_)).mono ?_
 ·obtain⟨x,o,s,h1,h2,ho,h3,h4,hs,h5,h6⟩:=h.one hk;have sw:=((h.below hW).st.tr.owners o ho).sets s hs;have hn:=sw.node;rw [<- h5] at hn;refine(single1_any k _ _ _ _ W' hn).mono ?_;rintro e w' ⟨rfl,hb⟩;refine⟨?_,hb⟩;rw [askK_at h1,h2,rule_single h.st.inv h.good.1 h1 ho h4 hs h6];rfl
 ·rintro e w' ⟨rfl,hb⟩;exact⟨fst_ending h.st.kin h.good.1 _ (fun i x hx=>by rw [ru3,hx];rfl) 23,hb⟩
theorem alias_P3{list:List Rr}{apex:ByteArray}{bb:Nat}{lv:Value}{th:Nat}{ys:List ByteArray}{aa:Option Addr}{ac:Nat}{labv rv:Value}{os:List GOw}{kv:Value}{ks:List Ld}{B:Nat}{W:World}(h:P3 list apex bb lv th ys aa ac labv rv os kv ks B W):
 Calls Tryz.prog 62 #[.pointer (some ⟨bb,0,none⟩)] W fun e w'=>e=rsV (rVal (firstI (fun _ x=>ru4 (itsOf list) x) (itsOf list)) 23).1 (rVal (firstI (fun _ x=>ru4 (itsOf list) x) (itsOf list)) 23).2∧Below W.heap.size W w':=by
 have hkl:=h.st.kin.len;rw [List.length_map] at hkl;have:=h.hl;have htr:=h.st.inv.trs (by rw [List.length_map];omega);refine(checkAlias_any bb kv ks (askK (list.map itemOf) (fun _ x=>ru4 (itsOf list) x)) W ((blk_cell h.kb 5).trans rfl) (CRow.of_owns h.st.kept) (by omega) (fun k hk W' hW=>?_)).mono ?_
 ·obtain⟨x,o,s,h1,h2,ho,h3,h4,hs,h5,h6⟩:=h.one hk;refine(alias1_any k o B W' h3 ((h.below hW).st.tr.owners o ho) (by have:=(htr.2 o ho).2.1;omega) (htr.2 o ho).1).mono ?_;rintro e w' ⟨rfl,hb⟩;refine⟨?_,hb⟩;rw [askK_at h1,h2,rule_alias h.st.inv h.good.1 h1 ho h4];rfl
 ·rintro e w' ⟨rfl,hb⟩;exact⟨fst_ending h.st.kin h.good.1 _ (fun i x hx=>by rw [ru4,hx];rfl) 23,hb⟩
theorem has_P3{list:List Rr}{apex:ByteArray}{bb:Nat}{lv:Value}{th:Nat}{ys:List ByteArray}{aa:Option Addr}{ac:Nat}{labv rv:Value}{os:List GOw}{kv:Value}{ks:List Ld}{B:Nat}{W:World}(h:P3 list apex bb lv th ys aa ac labv rv os kv ks B W)(t:Int):
 ∀ W',Below W.heap.size W W'->Calls Tryz.prog 89 #[.pointer (some ⟨bb,3,none⟩),.slice aa ys.length ac,.int .i64 t] W' fun e w'=>e=.returned (.bool (hasI (itsOf list) (Nm.foldS apex) t))∧Below W'.heap.size W' w':=by
 intro W' hW;have h':=h.below hW;have htr:=h.st.inv.trs (by rw [List.length_map];have:=h.hl;omega);have hol:=h.st.inv.len.1;rw [List.length_map] at hol;have hlf:=(lab_fit h.ap).2;have hh:=treeHas_any bb 3 th rv os B aa ys.length ac ys t W' h'.st.tr (by have:=h.hl;omega) htr h'.st.lab h'.av (by omega) ((blk_cell h'.kb 4).trans rfl);have e:=h.st.inv.has h.good.1 h.ap t;rw [e] at hh;exact hh
theorem ns_P3{list:List Rr}{apex:ByteArray}{bb:Nat}{lv:Value}{th:Nat}{ys:List ByteArray}{aa:Option Addr}{ac:Nat}{labv rv:Value}{os:List GOw}{kv:Value}{ks:List Ld}{B:Nat}{W:World}(h:P3 list apex bb lv th ys aa ac labv rv os kv ks B W):
 Calls Tryz.prog 59 #[.pointer (some ⟨bb,0,none⟩)] W fun e w'=>e=rsV (if hasI (itsOf list) (Nm.foldS apex) 2=true then(0,0) else((21:Int),(-1:Int))).1 (if hasI (itsOf list) (Nm.foldS apex) 2=true then(0,0) else((21:Int),(-1:Int))).2∧Below W.heap.size W w':=by
 refine(checkNS_any bb aa ys.length ac (hasI (itsOf list) (Nm.foldS apex) 2) W ((blk_cell h.kb 3).trans rfl) (has_P3 h 2)).mono ?_;rintro e w' ⟨rfl,hb⟩;refine⟨?_,hb⟩;cases hasI (itsOf list) (Nm.foldS apex) 2<;>rfl
def soaV(o:Option Nat)(b:Bool):Int×Int:=match o with
 |some i=>(20,i)
 |none=>if b=true then(0,0) else(20,-1)
theorem soa_P3{list:List Rr}{apex:ByteArray}{bb:Nat}{lv:Value}{th:Nat}{ys:List ByteArray}{aa:Option Addr}{ac:Nat}{labv rv:Value}{os:List GOw}{kv:Value}{ks:List Ld}{B:Nat}{W:World}(h:P3 list apex bb lv th ys aa ac labv rv os kv ks B W):
 Calls Tryz.prog 58 #[.pointer (some ⟨bb,0,none⟩)] W fun e w'=>e=rsV (soaV (firstI (ru1 (itsOf list) (Nm.foldS apex)) (itsOf list)) (hasI (itsOf list) (Nm.foldS apex) 6)).1 (soaV (firstI (ru1 (itsOf list) (Nm.foldS apex)) (itsOf list)) (hasI (itsOf list) (Nm.foldS apex) 6)).2∧Below W.heap.size W w':=by
 have hkl:=h.st.kin.len;rw [List.length_map] at hkl;have:=h.hl;refine(checkSOA_any bb kv ks (askK (list.map itemOf) (ru1 (itsOf list) (Nm.foldS apex))) aa ys.length ac (hasI (itsOf list) (Nm.foldS apex) 6) W ((blk_cell h.kb 5).trans rfl) (CRow.of_owns h.st.kept) (by omega) ((blk_cell h.kb 3).trans rfl) (fun k hk cq W' hW hq=>?_) (has_P3 h 6)).mono ?_
 ·obtain⟨x,o,s,h1,h2,ho,h3,h4,hs,h5,h6⟩:=h.one hk;have ow:=(h.below hW).st.tr.owners o ho;have hn:=ow.node;have sn:=(ow.sets s hs).node;obtain⟨va,vc,ev,_⟩:=((h.below hW).st.lab o ho).row;rw [<- h3,ev] at hn;rw [<- h5] at sn;refine(soa1_any k cq _ _ _ _ _ _ _ va o.lab.length vc aa ys.length ac W' sn hn hq).mono ?_;rintro e w' ⟨rfl,hb⟩;refine⟨?_,hb⟩;rw [askK_at h1,h2,rule_soa h.st.inv h.good.1 h.ap h.good.2 h1 ho h4 hs h6];rfl
 ·rintro e w' ⟨rfl,hb⟩;refine⟨?_,hb⟩;have e1:=fst_ending h.st.kin h.good.1 (ru1 (itsOf list) (Nm.foldS apex)) (fun i x hx=>by rw [ru1,hx];rfl) 20;unfold soaR soaV;have e2:(twI (list.map itemOf))=itsOf list:=rfl;rw [e2,fstR] at e1
  cases hf:ks.find? (askK (list.map itemOf) (ru1 (itsOf list) (Nm.foldS apex))) with
  |some k=>
   rw [hf] at e1
   cases hg:firstI (ru1 (itsOf list) (Nm.foldS apex)) (itsOf list) with
   |some i=>rw [hg] at e1;exact e1
   |none=>rw [hg] at e1;simp [rsV,rVal] at e1
  |none=>
   rw [hf] at e1
   cases hg:firstI (ru1 (itsOf list) (Nm.foldS apex)) (itsOf list) with
   |some i=>rw [hg] at e1;simp [rsV,rVal] at e1
   |none=>cases hasI (itsOf list) (Nm.foldS apex) 6<;>rfl
set_option maxRecDepth 100000 in
set_option maxHeartbeats 800000 in
theorem below_P3{list:List Rr}{apex:ByteArray}{bb:Nat}{lv:Value}{th:Nat}{ys:List ByteArray}{aa:Option Addr}{ac:Nat}{labv rv:Value}{os:List GOw}{kv:Value}{ks:List Ld}{B:Nat}{W:World}(h:P3 list apex bb lv th ys aa ac labv rv os kv ks B W):
 Calls Tryz.prog 63 #[.pointer (some ⟨bb,0,none⟩)] W fun e w'=>e=rsV (rVal (firstI (fun _ x=>ru5 (itsOf list) x) (itsOf list)) 25).1 (rVal (firstI (fun _ x=>ru5 (itsOf list) x) (itsOf list)) 25).2∧Below W.heap.size W w':=by
 have hkl:=h.st.kin.len;rw [List.length_map] at hkl;have hl5:=h.hl;have htr:=h.st.inv.trs (by rw [List.length_map];omega);have hol:=h.st.inv.len.1;rw [List.length_map] at hol;have hbt:=belowTails_any bb 3 th rv os B W h.st.tr htr (by omega) h.st.lab ((blk_cell h.kb 4).trans rfl)
 have hinj:∀ o∈os,∀ q∈os,q.blk=o.blk->q=o:=by
  intro o ho q hq e;obtain⟨i,hi⟩:=List.getElem?_of_mem ho;obtain⟨j,hj⟩:=List.getElem?_of_mem hq;have hi':=List.getElem?_eq_some_iff.1 hi;have hj':=List.getElem?_eq_some_iff.1 hj;have hnd:=h.st.tr.nodup;simp only [fpT,List.nodup_cons,List.nodup_append] at hnd;have hfm:=hnd.2.2.1
  have key:∀ (a b:Nat),a<b->(ha:a<os.length)->(hb:b<os.length)->os[a].blk≠os[b].blk:=by
   intro a b hab ha hb e2;have:=List.pairwise_iff_getElem.1 (List.pairwise_flatMap.1 hfm).2 a b ha hb hab;exact this os[a].blk (by simp [fpO]) os[b].blk (by simp [fpO]) e2
  rcases Nat.lt_trichotomy i j with h1|h1|h1
  ·exact absurd (by rw [hi'.2,hj'.2];exact e.symm) (key i j h1 hi'.1 hj'.1)
  ·subst h1;rw [hi] at hj;exact(Option.some.inj hj).symm
  ·exact absurd (by rw [hi'.2,hj'.2];exact e) (key j i h1 hj'.1 hi'.1)
 have hf9:∀ (W1:World) (v:Value) (cq:Nat),Below W.heap.size W W1->W1.cell? ⟨cq,0,none⟩=some v->CRow W1 v ((belK os).2.map (·.blk)).length 1 (((belK os).2.map (·.blk)).map ptr)->Calls Tryz.prog 87 #[.pointer (some ⟨bb,0,none⟩),.int .i64 25,.func (.func 96) #[] #[.pointer (some ⟨cq,0,none⟩)]] W1 fun e w'=>e=rsV (rVal (firstI (fun _ x=>ru5 (itsOf list) x) (itsOf list)) 25).1 (rVal (firstI (fun _ x=>ru5 (itsOf list) x) (itsOf list)) 25).2∧Below W1.heap.size W1 w':=by
  intro W1 v cq hW1 hq hrow;have h1':=h.below hW1;refine(firstBelow_any bb cq 25 kv ks (askK (list.map itemOf) (fun _ x=>ru5 (itsOf list) x)) W1 ((blk_cell h1'.kb 5).trans rfl) (CRow.of_owns h1'.st.kept) (by omega) (fun k hk W2 hW2=>?_)).mono ?_
  ·obtain⟨x,o,s,h1,h2,ho,h3,h4,hs,h5,h6⟩:=h.one hk;have h2':=h1'.below hW2;refine(below1_any k cq v ((belK os).2.map (·.blk)) W2 ((hW2.cell (p:=⟨cq,0,none⟩) (World.block_lt_of_cell? W1 _ hq)).trans hq) (hrow.below hW2) (fun b hb=>?_)).mono ?_
   ·rcases hb with hb|hb
    ·exact⟨_,_,by rw [hb,h3];exact(h2'.st.tr.owners o ho).node⟩
    ·obtain⟨q,hq2,rfl⟩:=List.mem_map.1 hb;exact⟨_,_,(h2'.st.tr.owners q ((bel_inv os h.st.inv.sorted.1).sub q hq2)).node⟩
   ·rintro e w' ⟨rfl,hb⟩;refine⟨?_,hb⟩;rw [askK_at h1,h3,rule_below h.st.inv h.good.1 h1 ho h4 (fun q hq e=>hinj o ho q hq e)];rfl
  ·rintro e w' ⟨rfl,hb⟩;exact⟨fst_ending h.st.kin h.good.1 _ (fun i x hx=>by rw [ru5,hx];rfl) 25,hb⟩
 have HF:=Nm.hide hf9;generalize rVal (firstI (fun _ x=>ru5 (itsOf list) x) (itsOf list)) 25=RV at*;have hmf:∀ (fn:Fn) (first cap:Array Value) (w:World),(Instr.makeFunc fn first cap).run Tryz.prog w=.ok (.func fn first cap) w:=fun _ _ _ _=>rfl
 clear hf9 hinj htr hol;unfold rsV at*;obtain⟨c,i⟩:=RV;simp only at*
 go_enter Tryz.func63,Tryz.ntmps63;go_wp2_with fail
 refine hbt.mono ?_;rintro e w1 ⟨v,rfl,hown,b1⟩;obtain⟨va,vc,rfl⟩:=own_sl hown;have kq:=blk_new w1 #[.slice va (belK os).2.length vc] 139;have b2:=b1.alloc b1.size (.cells #[.slice va (belK os).2.length vc] 139);have hr2:=CRow.of_owns (own_below hown ((Below.refl _ w1).alloc (Nat.le_refl _) (.cells #[.slice va (belK os).2.length vc] 139)));have hcall:=HF.out _ (.slice va (belK os).2.length vc) w1.heap.size b2 ((blk_cell kq 0).trans rfl) (by rw [List.length_map,List.map_map];exact hr2);clear hbt hr2 kq hown HF;go_wp2_with (go_at_call 87;refine hcall.mono ?_;rintro e w3 ⟨rfl,b3⟩)
 go_ret2;exact⟨rfl,Nm.below_two b2 b3⟩
end Go.Proofs.YtmdinnjimioffaaGreat
