import Derived.Test.YthdpacepbbcocaaGreatJSer2
import Derived.Test.YthdpacepbbcocaaGreatJBzK
import Derived.Test.YthdpacepbbcocaaGreatJPzG
import Derived.Test.YthdpacepbbcocaaGreatZbZ
set_option linter.unusedVariables false
set_option maxRecDepth 100000
set_option maxHeartbeats 800000
namespace Go.Proofs.YthdpacepbbcocaaGreat
open Go.RowKit
theorem YF(f:Ld->Bool)(code:Int)(l:List Ld):∃ c a,zY f code l=.tuple #[.int .i64 c,.int .i64 a]:=by
 unfold zY
 cases l.find? f with
 |none=>exact⟨_,_,rfl⟩
 |some x=>exact⟨_,_,rfl⟩
theorem Bq(bb:Nat)(v:Value)(ls:List Ld)(f:Ld->Bool)(w:World)(hk:w.cell? ⟨bb,5,none⟩=some v)(h:bS w v ls.length 4 (zX ls))(hl:ls.length<=1000000)
 (hf:∀ x∈ls,∀ W,Below w.heap.size w W->Calls Tryz.prog 139 #[.agg #[.int .i64 (x.at_:Int),.int .i64 x.ty,.pointer (some ⟨x.ob,0,none⟩),.pointer (some ⟨x.sb,0,none⟩)]] W fun e w'=>e=.returned (.bool (f x))∧Below W.heap.size W w'):
 Calls Tryz.prog 110 #[.pointer (some ⟨bb,0,none⟩)] w fun e w'=>e=.returned (zY f 26 ls)∧Below w.heap.size w w':=by
 have hw:=Bj bb 26 v ls f w hk h hl hf;obtain⟨c,a,e⟩:=YF f 26 ls;rw [e] at hw ⊢;clear hf h hk e;go_enter Tryz.func110,Tryz.ntmps110;go_wp2_with fail
 refine hw.mono ?_;rintro e w1 ⟨rfl,b1⟩;clear hw;go_wp2;go_ret2;exact⟨rfl,b1⟩
theorem TJ(bb:Nat)(v:Value)(ls:List Ld)(f:Ld->Bool)(w:World)(hk:w.cell? ⟨bb,5,none⟩=some v)(h:bS w v ls.length 4 (zX ls))(hl:ls.length<=1000000)
 (hf:∀ x∈ls,∀ W,Below w.heap.size w W->Calls Tryz.prog 141 #[.agg #[.int .i64 (x.at_:Int),.int .i64 x.ty,.pointer (some ⟨x.ob,0,none⟩),.pointer (some ⟨x.sb,0,none⟩)]] W fun e w'=>e=.returned (.bool (f x))∧Below W.heap.size W w'):
 Calls Tryz.prog 111 #[.pointer (some ⟨bb,0,none⟩)] w fun e w'=>e=.returned (zY f 23 ls)∧Below w.heap.size w w':=by
 have hw:=TE bb 23 v ls f w hk h hl hf;obtain⟨c,a,e⟩:=YF f 23 ls;rw [e] at hw ⊢;clear hf h hk e;go_enter Tryz.func111,Tryz.ntmps111;go_wp2_with fail
 refine hw.mono ?_;rintro e w1 ⟨rfl,b1⟩;clear hw;go_wp2;go_ret2;exact⟨rfl,b1⟩
theorem YG(bb:Nat)(v:Value)(ls:List Ld)(f:Ld->Bool)(w:World)(hk:w.cell? ⟨bb,5,none⟩=some v)(h:bS w v ls.length 4 (zX ls))(hl:ls.length<=1000000)
 (hf:∀ x∈ls,∀ W,Below w.heap.size w W->Calls Tryz.prog 142 #[.agg #[.int .i64 (x.at_:Int),.int .i64 x.ty,.pointer (some ⟨x.ob,0,none⟩),.pointer (some ⟨x.sb,0,none⟩)]] W fun e w'=>e=.returned (.bool (f x))∧Below W.heap.size W w'):
 Calls Tryz.prog 112 #[.pointer (some ⟨bb,0,none⟩)] w fun e w'=>e=.returned (zY f 23 ls)∧Below w.heap.size w w':=by
 have hw:=XU bb 23 v ls f w hk h hl hf;obtain⟨c,a,e⟩:=YF f 23 ls;rw [e] at hw ⊢;clear hf h hk e;go_enter Tryz.func112,Tryz.ntmps112;go_wp2_with fail
 refine hw.mono ?_;rintro e w1 ⟨rfl,b1⟩;clear hw;go_wp2;go_ret2;exact⟨rfl,b1⟩
theorem xH{aM:ByteArray}:∀ (l:List Rr) (i:Nat),gP aM l i=none->∀ r∈l,mV r aM=0:=by
 intro l
 induction l with
 |nil=>intro i _ r hr;cases hr
 |cons x l ih=>
  intro i h r hr;rw [gP] at h
  by_cases hx:mV x aM=0
  ·rw [if_pos hx] at h
   rcases List.mem_cons.1 hr with rfl|hr
   ·exact hx
   exact ih (i+1) h r hr
  rw [if_neg hx] at h;cases h
theorem NK{aM:ByteArray}:∀ (l:List Rr) (i:Nat) (c:Int) (j:Nat),gP aM l i=some (c,j)->c≠0:=by
 intro l
 induction l with
 |nil=>intro i c j h;simp [gP] at h
 |cons x l ih=>
  intro i c j h;rw [gP] at h
  by_cases hx:mV x aM=0
  ·rw [if_pos hx] at h;exact ih (i+1) c j h
  rw [if_neg hx] at h;simp at h;rw [<- h.1];exact hx
theorem QF{r:Rr}{aM:ByteArray}(h:mV r aM=0):(Nm.split r.own).isSome=true∧fT r.own aM=true:=by
 rw [mV] at h
 split at h
 ·cases h
 rename_i h1;refine⟨by cases hq:(Nm.split r.own).isSome with|true=>rfl|false=>exact absurd hq h1,?_⟩
 split at h
 ·cases h
 split at h
 ·cases h
 split at h
 ·cases h
 split at h
 ·cases h
 split at h
 ·cases h
 rename_i h2;simpa using h2
structure P3 (list:List Rr) (aM:ByteArray) (bb:Nat) (lv:Value) (th:Nat) (ys:List ByteArray) (aa:Option Addr) (ac:Nat) (fC rv:Value) (os:List eZ) (kv:Value) (ks:List Ld) (B:Nat) (W:World):Prop where
 kb:bG W bb #[lv,.string aM,fC,.slice aa ys.length ac,ptr th,kv] 122
 st:Qt B W th (list.map aQ) rv os kv ks
 ap:Nm.split aM=some ys
 av:Nm.dX W (.slice aa ys.length ac) ys
 hl:list.length<=500
 ok:gP aM list 0=none
 mix:∀ (i:Nat) (y:It),(list.map aQ)[i]? =some y->qO ((list.map aQ).take i) y=false
theorem P3.below{list:List Rr}{aM:ByteArray}{bb:Nat}{lv:Value}{th:Nat}{ys:List ByteArray}{aa:Option Addr}{ac:Nat}{fC rv:Value}{os:List eZ}{kv:Value}{ks:List Ld}{B:Nat}{W W':World}(h:P3 list aM bb lv th ys aa ac fC rv os kv ks B W)(hb:Below W.heap.size W W'):P3 list aM bb lv th ys aa ac fC rv os kv ks B W':=
 ⟨aB h.kb hb,h.st.below hb,h.ap,h.av.below hb,h.hl,h.ok,h.mix⟩
theorem P3.NL{list:List Rr}{aM:ByteArray}{bb:Nat}{lv:Value}{th:Nat}{ys:List ByteArray}{aa:Option Addr}{ac:Nat}{fC rv:Value}{os:List eZ}{kv:Value}{ks:List Ld}{B:Nat}{W:World}(h:P3 list aM bb lv th ys aa ac fC rv os kv ks B W):(∀ y∈list.map aQ,gB y)∧∀ y∈list.map aQ,fT y.r.own aM=true:=by
 constructor<;>intro y hy<;>obtain⟨r,hr,rfl⟩:=lS hy
 ·exact wH (QF (xH _ _ h.ok r hr)).1
 exact(QF (xH _ _ h.ok r hr)).2
theorem P3.one{list:List Rr}{aM:ByteArray}{bb:Nat}{lv:Value}{th:Nat}{ys:List ByteArray}{aa:Option Addr}{ac:Nat}{fC rv:Value}{os:List eZ}{kv:Value}{ks:List Ld}{B:Nat}{W:World}(h:P3 list aM bb lv th ys aa ac fC rv os kv ks B W){k:Ld}(hk:k∈ks):
 ∃ x o s,(list.map aQ)[k.at_]? =some x∧k.ty=x.r.ty∧o∈os∧k.ob=o.dL∧DW o.lab x∧s∈o.ss∧k.sb=s.dL∧s.ty=x.r.ty:=by
 obtain⟨x,h1,h2,o,ho,h3,h4,s,hs,h5,h6⟩:=h.st.kin.ok k hk;exact⟨x,o,s,h1,h2,ho,h3.symm,h4,hs,h5.symm,h6⟩
theorem NM{l:List It}{p:Nat->It->Bool}{k:Ld}{x:It}(h:l[k.at_]? =some x):QA l p k=p k.at_ x:=by rw [QA,h]
def tT(o:Option Nat)(code:Int):Int×Int:=match o with
 |some i=>(code,i)
 |none=>(0,0)
theorem xI{l:List It}{os:List eZ}{ks:List Ld}(hK:TF l os ks)(hl:∀ y∈l,gB y)(p:Nat->It->Bool)(hp:∀ i x,x.out=true->p i x=false)(code:Int):Ending.returned (zY (QA l p) code ks)=AC (tT (bL p (zB l)) code).1 (tT (bL p (zB l)) code).2:=by
 rw [aG9 hK hl p hp code];cases bL p (zB l)<;>rfl
theorem aK3{list:List Rr}{aM:ByteArray}{bb:Nat}{lv:Value}{th:Nat}{ys:List ByteArray}{aa:Option Addr}{ac:Nat}{fC rv:Value}{os:List eZ}{kv:Value}{ks:List Ld}{B:Nat}{W:World}(h:P3 list aM bb lv th ys aa ac fC rv os kv ks B W):
 Calls Tryz.prog 110 #[.pointer (some ⟨bb,0,none⟩)] W fun e w'=>e=AC (tT (bL (fun _ x=>KX x) (bD list)) 26).1 (tT (bL (fun _ x=>KX x) (bD list)) 26).2∧Below W.heap.size W w':=by
 have nS:=h.st.kin.len;rw [List.length_map] at nS;have:=h.hl;refine(Bq bb kv ks (QA (list.map aQ) (fun _ x=>KX x)) W ((aA h.kb 5).trans rfl) (bS.aS h.st.kept) (by omega) (fun k hk W' hW=>?_)).mono ?_
 ·obtain⟨x,o,s,h1,h2,ho,h3,h4,hs,h5,h6⟩:=h.one hk;have ow:=(h.below hW).st.tr.mU o ho;have hn:=ow.node;rw [<- h3] at hn;refine(aEa k _ _ _ _ o.lab W' hn (((h.below hW).st.lab o ho).row)).mono ?_;rintro e w' ⟨rfl,hb⟩;refine⟨?_,hb⟩;rw [NM h1,h2,aD1 h.st.inv h.NL.1 h1 ho h4]
 rintro e w' ⟨rfl,hb⟩;exact⟨xI h.st.kin h.NL.1 _ (fun i x hx=>by rw [KX,hx];rfl) 26,hb⟩
theorem aEc{list:List Rr}{aM:ByteArray}{bb:Nat}{lv:Value}{th:Nat}{ys:List ByteArray}{aa:Option Addr}{ac:Nat}{fC rv:Value}{os:List eZ}{kv:Value}{ks:List Ld}{B:Nat}{W:World}(h:P3 list aM bb lv th ys aa ac fC rv os kv ks B W):
 Calls Tryz.prog 111 #[.pointer (some ⟨bb,0,none⟩)] W fun e w'=>e=AC (tT (bL (MJ (bD list)) (bD list)) 23).1 (tT (bL (MJ (bD list)) (bD list)) 23).2∧Below W.heap.size W w':=by
 have nS:=h.st.kin.len;rw [List.length_map] at nS;have:=h.hl;refine(TJ bb kv ks (QA (list.map aQ) (MJ (bD list))) W ((aA h.kb 5).trans rfl) (bS.aS h.st.kept) (by omega) (fun k hk W' hW=>?_)).mono ?_
 ·obtain⟨x,o,s,h1,h2,ho,h3,h4,hs,h5,h6⟩:=h.one hk;have sw:=((h.below hW).st.tr.mU o ho).sets s hs;have hn:=sw.node;rw [<- h5] at hn;refine(Qr k _ _ _ _ W' hn).mono ?_;rintro e w' ⟨rfl,hb⟩;refine⟨?_,hb⟩;rw [NM h1,h2,Ql h.st.inv h.NL.1 h1 ho h4 hs h6];rfl
 rintro e w' ⟨rfl,hb⟩;exact⟨xI h.st.kin h.NL.1 _ (fun i x hx=>by rw [MJ,hx];rfl) 23,hb⟩
theorem aHt{list:List Rr}{aM:ByteArray}{bb:Nat}{lv:Value}{th:Nat}{ys:List ByteArray}{aa:Option Addr}{ac:Nat}{fC rv:Value}{os:List eZ}{kv:Value}{ks:List Ld}{B:Nat}{W:World}(h:P3 list aM bb lv th ys aa ac fC rv os kv ks B W):
 Calls Tryz.prog 112 #[.pointer (some ⟨bb,0,none⟩)] W fun e w'=>e=AC (tT (bL (fun _ x=>KG (bD list) x) (bD list)) 23).1 (tT (bL (fun _ x=>KG (bD list) x) (bD list)) 23).2∧Below W.heap.size W w':=by
 have nS:=h.st.kin.len;rw [List.length_map] at nS;have:=h.hl;have htr:=h.st.inv.trs (by rw [List.length_map];omega);refine(YG bb kv ks (QA (list.map aQ) (fun _ x=>KG (bD list) x)) W ((aA h.kb 5).trans rfl) (bS.aS h.st.kept) (by omega) (fun k hk W' hW=>?_)).mono ?_
 ·obtain⟨x,o,s,h1,h2,ho,h3,h4,hs,h5,h6⟩:=h.one hk;refine(Yn k o B W' h3 ((h.below hW).st.tr.mU o ho) (by have:=(htr.2 o ho).2.1;omega) (htr.2 o ho).1).mono ?_;rintro e w' ⟨rfl,hb⟩;refine⟨?_,hb⟩;rw [NM h1,h2,Yd h.st.inv h.NL.1 h1 ho h4];rfl
 rintro e w' ⟨rfl,hb⟩;exact⟨xI h.st.kin h.NL.1 _ (fun i x hx=>by rw [KG,hx];rfl) 23,hb⟩
theorem aHu{list:List Rr}{aM:ByteArray}{bb:Nat}{lv:Value}{th:Nat}{ys:List ByteArray}{aa:Option Addr}{ac:Nat}{fC rv:Value}{os:List eZ}{kv:Value}{ks:List Ld}{B:Nat}{W:World}(h:P3 list aM bb lv th ys aa ac fC rv os kv ks B W)(t:Int):
 ∀ W',Below W.heap.size W W'->Calls Tryz.prog 138 #[.pointer (some ⟨bb,3,none⟩),.slice aa ys.length ac,.int .i64 t] W' fun e w'=>e=.returned (.bool (fH (bD list) (Nm.cZ aM) t))∧Below W'.heap.size W' w':=by
 intro W' hW;have h':=h.below hW;have htr:=h.st.inv.trs (by rw [List.length_map];have:=h.hl;omega);have hol:=h.st.inv.len.1;rw [List.length_map] at hol;have hlf:=(UI h.ap).2;have hh:=Ol bb 3 th rv os B aa ys.length ac ys t W' h'.st.tr (by have:=h.hl;omega) htr h'.st.lab h'.av (by omega) ((aA h'.kb 4).trans rfl);have e:=h.st.inv.has h.NL.1 h.ap t;rw [e] at hh;exact hh
theorem aRo{list:List Rr}{aM:ByteArray}{bb:Nat}{lv:Value}{th:Nat}{ys:List ByteArray}{aa:Option Addr}{ac:Nat}{fC rv:Value}{os:List eZ}{kv:Value}{ks:List Ld}{B:Nat}{W:World}(h:P3 list aM bb lv th ys aa ac fC rv os kv ks B W):
 Calls Tryz.prog 109 #[.pointer (some ⟨bb,0,none⟩)] W fun e w'=>e=AC (if fH (bD list) (Nm.cZ aM) 2=true then(0,0) else((21:Int),(-1:Int))).1 (if fH (bD list) (Nm.cZ aM) 2=true then(0,0) else((21:Int),(-1:Int))).2∧Below W.heap.size W w':=by
 refine(Qu bb aa ys.length ac (fH (bD list) (Nm.cZ aM) 2) W ((aA h.kb 3).trans rfl) (aHu h 2)).mono ?_;rintro e w' ⟨rfl,hb⟩;refine⟨?_,hb⟩;cases fH (bD list) (Nm.cZ aM) 2<;>rfl
def Zk(o:Option Nat)(b:Bool):Int×Int:=match o with
 |some i=>(20,i)
 |none=>if b=true then(0,0) else(20,-1)
theorem aNs{list:List Rr}{aM:ByteArray}{bb:Nat}{lv:Value}{th:Nat}{ys:List ByteArray}{aa:Option Addr}{ac:Nat}{fC rv:Value}{os:List eZ}{kv:Value}{ks:List Ld}{B:Nat}{W:World}(h:P3 list aM bb lv th ys aa ac fC rv os kv ks B W):
 Calls Tryz.prog 108 #[.pointer (some ⟨bb,0,none⟩)] W fun e w'=>e=AC (Zk (bL (EA (bD list) (Nm.cZ aM)) (bD list)) (fH (bD list) (Nm.cZ aM) 6)).1 (Zk (bL (EA (bD list) (Nm.cZ aM)) (bD list)) (fH (bD list) (Nm.cZ aM) 6)).2∧Below W.heap.size W w':=by
 have nS:=h.st.kin.len;rw [List.length_map] at nS;have:=h.hl;refine(Hu bb kv ks (QA (list.map aQ) (EA (bD list) (Nm.cZ aM))) aa ys.length ac (fH (bD list) (Nm.cZ aM) 6) W ((aA h.kb 5).trans rfl) (bS.aS h.st.kept) (by omega) ((aA h.kb 3).trans rfl) (fun k hk cq W' hW hq=>?_) (aHu h 6)).mono ?_
 ·obtain⟨x,o,s,h1,h2,ho,h3,h4,hs,h5,h6⟩:=h.one hk;have ow:=(h.below hW).st.tr.mU o ho;have hn:=ow.node;have sn:=(ow.sets s hs).node;obtain⟨va,vc,ev,_⟩:=((h.below hW).st.lab o ho).row;rw [<- h3,ev] at hn;rw [<- h5] at sn;refine(aHl k cq _ _ _ _ _ _ _ va o.lab.length vc aa ys.length ac W' sn hn hq).mono ?_;rintro e w' ⟨rfl,hb⟩;refine⟨?_,hb⟩;rw [NM h1,h2,aHb h.st.inv h.NL.1 h.ap h.NL.2 h1 ho h4 hs h6];rfl
 rintro e w' ⟨rfl,hb⟩;refine⟨?_,hb⟩;have e1:=xI h.st.kin h.NL.1 (EA (bD list) (Nm.cZ aM)) (fun i x hx=>by rw [EA,hx];rfl) 20;unfold aNj Zk;have e2:(zB (list.map aQ))=bD list:=rfl;rw [e2,zY] at e1
 cases hf:ks.find? (QA (list.map aQ) (EA (bD list) (Nm.cZ aM))) with
 |some k=>
  rw [hf] at e1
  cases hg:bL (EA (bD list) (Nm.cZ aM)) (bD list) with
  |some i=>rw [hg] at e1;exact e1
  |none=>rw [hg] at e1;simp [AC,tT] at e1
 |none=>
  rw [hf] at e1
  cases hg:bL (EA (bD list) (Nm.cZ aM)) (bD list) with
  |some i=>rw [hg] at e1;simp [AC,tT] at e1
  |none=>cases fH (bD list) (Nm.cZ aM) 6<;>rfl
theorem aHv{list:List Rr}{aM:ByteArray}{bb:Nat}{lv:Value}{th:Nat}{ys:List ByteArray}{aa:Option Addr}{ac:Nat}{fC rv:Value}{os:List eZ}{kv:Value}{ks:List Ld}{B:Nat}{W:World}(h:P3 list aM bb lv th ys aa ac fC rv os kv ks B W):
 Calls Tryz.prog 113 #[.pointer (some ⟨bb,0,none⟩)] W fun e w'=>e=AC (tT (bL (fun _ x=>PQ (bD list) x) (bD list)) 25).1 (tT (bL (fun _ x=>PQ (bD list) x) (bD list)) 25).2∧Below W.heap.size W w':=by
 have nS:=h.st.kin.len;rw [List.length_map] at nS;have hl5:=h.hl;have htr:=h.st.inv.trs (by rw [List.length_map];omega);have hol:=h.st.inv.len.1;rw [List.length_map] at hol;have hbt:=XQ bb 3 th rv os B W h.st.tr htr (by omega) h.st.lab ((aA h.kb 4).trans rfl)
 have aKq:∀ o∈os,∀ q∈os,q.dL=o.dL->q=o:=by
  intro o ho q hq e;obtain⟨i,hi⟩:=List.getElem?_of_mem ho;obtain⟨j,hj⟩:=List.getElem?_of_mem hq;have Jg:=dK hi;have Ew:=dK hj;have JY:=h.st.tr.nodup;simp only [jP,List.nodup_cons,List.nodup_append] at JY;have hfm:=JY.2.2.1
  have key:∀ (a b:Nat),a<b->(ha:a<os.length)->(hb:b<os.length)->os[a].dL≠os[b].dL:=by
   intro a b hab ha hb e2;have:=List.pairwise_iff_getElem.1 (List.pairwise_flatMap.1 hfm).2 a b ha hb hab;exact this os[a].dL (by simp [pO]) os[b].dL (by simp [pO]) e2
  rcases Nat.lt_trichotomy i j with h1|h1|h1
  ·exact absurd (by rw [Jg.2,Ew.2];exact e.symm) (key i j h1 Jg.1 Ew.1)
  ·subst h1;rw [hi] at hj;exact(gQ hj).symm
  exact absurd (by rw [Jg.2,Ew.2];exact e) (key j i h1 Ew.1 Jg.1)
 have hf9:∀ (W1:World) (v:Value) (cq:Nat),Below W.heap.size W W1->W1.cell? ⟨cq,0,none⟩=some v->bS W1 v ((iI os).2.map (·.dL)).length 1 (((iI os).2.map (·.dL)).map ptr)->Calls Tryz.prog 136 #[.pointer (some ⟨bb,0,none⟩),.int .i64 25,.func (.func 145) #[] #[.pointer (some ⟨cq,0,none⟩)]] W1 fun e w'=>e=AC (tT (bL (fun _ x=>PQ (bD list) x) (bD list)) 25).1 (tT (bL (fun _ x=>PQ (bD list) x) (bD list)) 25).2∧Below W1.heap.size W1 w':=by
  intro W1 v cq Gg hq eF;have YZ:=h.below Gg;refine(XV bb cq 25 kv ks (QA (list.map aQ) (fun _ x=>PQ (bD list) x)) W1 ((aA YZ.kb 5).trans rfl) (bS.aS YZ.st.kept) (by omega) (fun k hk W2 hW2=>?_)).mono ?_
  ·obtain⟨x,o,s,h1,h2,ho,h3,h4,hs,h5,h6⟩:=h.one hk;have Sb:=YZ.below hW2;refine(Ym k cq v ((iI os).2.map (·.dL)) W2 ((hW2.cell (p:=⟨cq,0,none⟩) (eB W1 _ hq)).trans hq) (eF.below hW2) (fun b hb=>?_)).mono ?_
   ·rcases hb with hb|hb
    ·exact⟨_,_,by rw [hb,h3];exact(Sb.st.tr.mU o ho).node⟩
    obtain⟨q,Aq,rfl⟩:=lS hb;exact⟨_,_,(Sb.st.tr.mU q ((aA1 os h.st.inv.sorted.1).sub q Aq)).node⟩
   rintro e w' ⟨rfl,hb⟩;refine⟨?_,hb⟩;rw [NM h1,h3,Ye h.st.inv h.NL.1 h1 ho h4 (fun q hq e=>aKq o ho q hq e)];rfl
  rintro e w' ⟨rfl,hb⟩;exact⟨xI h.st.kin h.NL.1 _ (fun i x hx=>by rw [PQ,hx];rfl) 25,hb⟩
 have HF:=Nm.aF hf9;generalize tT (bL (fun _ x=>PQ (bD list) x) (bD list)) 25=RV at*;have hmf:∀ (fn:Fn) (first cap:Array Value) (w:World),(Instr.makeFunc fn first cap).run Tryz.prog w=.ok (.func fn first cap) w:=fun _ _ _ _=>rfl
 clear hf9 aKq htr hol;unfold AC at*;obtain⟨c,i⟩:=RV;simp only at*
 go_enter Tryz.func113,Tryz.ntmps113;go_wp2_with fail
 refine hbt.mono ?_;rintro e w1 ⟨v,rfl,aU,b1⟩;obtain⟨va,vc,rfl⟩:=aT aU;have kq:=aH w1 #[.slice va (iI os).2.length vc] 181;have b2:=b1.alloc b1.size (.cells #[.slice va (iI os).2.length vc] 181);have uR:=bS.aS (own_below aU ((aK _ w1).alloc (aN _) (.cells #[.slice va (iI os).2.length vc] 181)));have aX:=HF.out _ (.slice va (iI os).2.length vc) w1.heap.size b2 ((aA kq 0).trans rfl) (by rw [List.length_map,List.map_map];exact uR);clear hbt uR kq aU HF;go_wp2_with (go_at_call 136;refine aX.mono ?_;rintro e w3 ⟨rfl,b3⟩)
 go_ret2;exact⟨rfl,Nm.aC b2 b3⟩
def IW(ap b:ByteArray):List Rr:=[⟨ap,6,1,3600,DX ap b⟩,⟨ap,2,1,3600,tL [⟨#[110,115,49]⟩] ap⟩]
def apB(ap:ByteArray):Bool:=(Nm.split ap).isSome&&fT ap ap&& !yF (Nm.cZ ap)&&(Nm.split (tL [⟨#[110,115,49]⟩] ap)).isSome&&(Nm.split (tL [⟨#[97,100,109,105,110]⟩] ap)).isSome
theorem aHw{ap:ByteArray}(h:ap∈IQ):apB ap=true:=by
 simp only [IQ,List.mem_cons,List.not_mem_nil,or_false] at h
 rcases h with rfl|rfl|rfl|rfl<;>decide+kernel
theorem aHx:∀ (l:List UInt8) (cs:List UInt8) (xs:List ByteArray),LOK cs xs->LOK (cs++List.replicate l.length 98) (xs++l.map fun c=>⟨#[c]⟩)
 |[],cs,xs,h=>by simpa using h
 |c::l,cs,xs,h=>by
  have h1:=aHx l (cs++[98]) (xs++[⟨#[c]⟩]) (h.snoc (fun e=>absurd e (by decide)) (fun _=>rfl));simpa [List.replicate_succ] using h1
theorem Qy:∀ (l:List UInt8),bA (Dt.nP (l.map fun c=>(⟨#[c]⟩:ByteArray)))=⟨l.toArray⟩
 |[]=>rfl
 |c::l=>by
  rw [List.map_cons,zW,Qy l];apply Nm.kI;simp
theorem aK4{ap b:ByteArray}(pW:ap∈IQ)(hb:b.size=20):bQ 6 (DX ap b)=0:=by
 have h:=aHw pW;have hs:=UE pW;simp only [apB,Bool.and_eq_true] at h;obtain⟨⟨_,h1⟩,h2⟩:=h
 have hl:LOK (Dt.mY (6:Nat)).data.toList ([tL [⟨#[110,115,49]⟩] ap,tL [⟨#[97,100,109,105,110]⟩] ap]++b.data.toList.map fun c=>(⟨#[c]⟩:ByteArray)):=by
  have h3:=aHx b.data.toList [110,110] [tL [⟨#[110,115,49]⟩] ap,tL [⟨#[97,100,109,105,110]⟩] ap] ⟨⟨fun _=>h1,fun e=>absurd e (by decide)⟩,⟨fun _=>h2,fun e=>absurd e (by decide)⟩,trivial⟩;have h4:b.data.toList.length=20:=by simpa using hb
  rw [h4] at h3;exact h3
 have e:bA (Dt.nP ([tL [⟨#[110,115,49]⟩] ap,tL [⟨#[97,100,109,105,110]⟩] ap]++b.data.toList.map fun c=>(⟨#[c]⟩:ByteArray)))=DX ap b:=by
  rw [List.cons_append,List.cons_append,List.nil_append,zW,zW,Qy,DX,ByteArray.append_assoc]
 have h5:=WS (t:=6) (by decide) (by decide) hl (by
  rw [e,DX,jV,jV,sG,sG,show Nm.dP [(⟨#[110,115,49]⟩:ByteArray)]=4 from rfl,show Nm.dP [(⟨#[97,100,109,105,110]⟩:ByteArray)]=6 from rfl]
  omega)
 rw [e] at h5;exact h5
theorem aNt{ap:ByteArray}(pW:ap∈IQ):bQ 2 (tL [⟨#[110,115,49]⟩] ap)=0:=by
 have h:=aHw pW;have hs:=UE pW;simp only [apB,Bool.and_eq_true] at h
 have h5:=WS (t:=2) (xs:=[tL [⟨#[110,115,49]⟩] ap]) (by decide) (by decide) ⟨⟨fun _=>h.1.2,fun e=>absurd e (by decide)⟩,trivial⟩ (by
  rw [zW,show bA (Dt.nP [])=⟨#[]⟩ from rfl,jV,sG,show Nm.dP [(⟨#[110,115,49]⟩:ByteArray)]=4 from rfl,show(⟨#[]⟩:ByteArray).size=0 from rfl]
  omega)
 have e:bA (Dt.nP [tL [⟨#[110,115,49]⟩] ap])=tL [⟨#[110,115,49]⟩] ap:=by
  rw [zW];apply Nm.kI;simp [bA,Dt.nP]
 rw [e] at h5;exact h5
theorem aEd{a b:Rr}{fo d e:ByteArray}(ha:a.ty=6)(hb:b.ty=2)(hs:yF fo=false):fM [⟨a,fo,d,false⟩,⟨b,fo,e,false⟩] fo=(0,0):=by
 have f1:bL (fun i x=> !x.out&&decide (x.r.ty=6)&&(decide (x.fo≠fo)||fH ([(⟨a,fo,d,false⟩:It),⟨b,fo,e,false⟩].take i) fo 6)) [⟨a,fo,d,false⟩,⟨b,fo,e,false⟩]=none:=by
  refine lI fun i hi y hy=>?_
  match i,hy with
  |0,hy=>simp at hy;subst hy;simp [fH]
  |1,hy=>simp at hy;subst hy;simp [hb]
  |i+2,hy=>simp at hy
 have g:∀ p:Nat->It->Bool,(p 0 ⟨a,fo,d,false⟩=false)->(p 1 ⟨b,fo,e,false⟩=false)->bL p [⟨a,fo,d,false⟩,⟨b,fo,e,false⟩]=none:=by
  intro p h0 h1;refine lI fun i hi y hy=>?_
  match i,hy with
  |0,hy=>simp at hy;subst hy;exact h0
  |1,hy=>simp at hy;subst hy;exact h1
  |i+2,hy=>simp at hy
 have h6:fH [(⟨a,fo,d,false⟩:It),⟨b,fo,e,false⟩] fo 6=true:=by simp [fH,ha]
 have h2:fH [(⟨a,fo,d,false⟩:It),⟨b,fo,e,false⟩] fo 2=true:=by simp [fH,ha,hb]
 rw [fM,f1];simp only [h6,h2,Bool.not_true,Bool.false_eq_true,if_false];rw [g _ (by simp [hs]) (by simp [hs]),g _ (by simp [ha]) (by simp [hb]),g _ (by simp [fH,ha,hb]) (by simp [fH,ha,hb]),g _ (by simp [ha,hb]) (by simp [ha,hb])]
theorem aK5{ap b:ByteArray}(pW:ap∈IQ)(hb:b.size=20):eH (IW ap b) ap=(0,0):=by
 have h:=aHw pW;simp only [apB,Bool.and_eq_true,Bool.not_eq_true'] at h;obtain⟨⟨⟨⟨s1,s2⟩,s3⟩,s4⟩,s5⟩:=h;have k6:=aK4 pW hb;have k2:=aNt pW
 have jW:gP ap (IW ap b) 0=none:=by
  rw [IW,gP,if_pos (by simp [mV,s1,s2,k6,mE]),gP,if_pos (by simp [mV,s1,s2,k2,mE]),gP]
 have aKk:sF ((IW ap b).map aQ)= -1:=by
  rw [sF,lI];intro i hi y hy
  match i,hy with
  |0,hy=>simp [qO]
  |1,hy=>
   simp [IW] at hy
   subst hy
   simp [IW,qO,lV,aQ]
  |i+2,hy=>simp [IW] at hy
 have TH:bD (IW ap b)=[⟨⟨ap,6,1,3600,DX ap b⟩,Nm.cZ ap,gK 6 (DX ap b),false⟩,⟨⟨ap,2,1,3600,tL [⟨#[110,115,49]⟩] ap⟩,Nm.cZ ap,gK 2 (tL [⟨#[110,115,49]⟩] ap),false⟩]:=by
  rw [bD,zB];simp [IW,iQ,aQ,jI,lV]
 rw [eH,if_neg (by rw [s1];decide),if_neg (by simp [IW]),jW];simp only [aKk];rw [if_neg (by decide),TH,aEd rfl rfl s3];rfl
theorem aHy{aM:ByteArray}:∀ (l:List Rr) (i:Nat) (c:Int) (j:Nat),gP aM l i=some (c,j)->c≠0
 |[],i,c,j,h=>by simp [gP] at h
 |r::l,i,c,j,h=>by
  rw [gP] at h
  split at h
  ·exact aHy l (i+1) c j h
  rename_i hn;simp at h;rw [<- h.1];exact hn
theorem aBa{list:List Rr}{ap:ByteArray}(h:(eH list ap).1=0):0<(mW list).length:=by
 have h6:fH (bD list) (Nm.cZ ap) 6=true:=by
  rw [eH] at h
  split at h
  ·exact absurd h (by simp)
  split at h
  ·exact absurd h (by simp)
  split at h
  ·rename_i c i hc;exact absurd h (aHy _ _ c i hc)
  split at h
  ·exact absurd h (by simp)
  split at h
  ·rename_i hr;exact absurd h hr
  rename_i hr;have uR:(fM (bD list) (Nm.cZ ap)).1=0:=Classical.byContradiction hr;rw [fM] at uR
  split at uR
  ·exact absurd uR (by simp)
  cases e:fH (bD list) (Nm.cZ ap) 6 with
  |true=>rfl
  |false=>
   rw [e] at uR;exact absurd uR (by simp)
 rw [fH,List.any_eq_true] at h6;obtain⟨x,hx,hp⟩:=h6;simp only [Bool.and_eq_true,Bool.not_eq_true'] at hp;have hm:x∈xB list:=List.mem_filter.2 ⟨hx,by simp [hp.1.1]⟩
 have hs:0<(fK list).length:=by
  rw [fK,EY,tK];exact List.length_pos_of_mem hm
 obtain⟨qs,s,e⟩:=vZ (l:=bD list) (jQ:=fK list) _ hs (aN _);rw [mW,e];simp
def bzO(list:List Rr)(aM:ByteArray):ByteArray:=if(eH list aM).1=0 then aM else ByteArray.empty
def bzZ(list:List Rr)(aM:ByteArray):List Sz:=if(eH list aM).1=0 then mW list else []
def bzI(list:List Rr)(aM:ByteArray):Int:=if(eH list aM).1=0 then 0 else(eH list aM).2
theorem aNu{list:List Rr}{aM:ByteArray}{w w':World}{e:Ending}(h:QE list aM w e w'):∃ a c ps,e=.returned (.tuple #[.agg #[.string (bzO list aM),.slice a ps.length c],.int .i64 (eH list aM).1,.int .i64 (bzI list aM)])∧ps.map (·.1)=bzZ list aM∧dH w' w.heap.size (.slice a ps.length c) ps∧Below w.heap.size w w':=by
 obtain⟨hb,h0,h1⟩:=h
 by_cases hc:(eH list aM).1=0
 ·obtain⟨v,ps,rfl,hp,hz⟩:=h0 hc;obtain⟨a,c,rfl⟩:=aT hz.outer;exact⟨a,c,ps,by rw [bzO,bzI,if_pos hc,if_pos hc,hc],by rw [bzZ,if_pos hc];exact hp,hz,hb⟩
 exact⟨none,0,[],by rw [h1 hc,bzO,bzI,if_neg hc,if_neg hc];rfl,by rw [bzZ,if_neg hc];rfl,dH.nil _ _,hb⟩
