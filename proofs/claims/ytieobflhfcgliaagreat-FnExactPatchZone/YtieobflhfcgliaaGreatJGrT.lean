import Derived.Test.YtieobflhfcgliaaGreatJMath
import Derived.Test.YtieobflhfcgliaaGreatJEqV
import Derived.Test.YtieobflhfcgliaaGreatJZnT
import Derived.Test.YtieobflhfcgliaaGreatJZnK
import Derived.Test.YtieobflhfcgliaaGreatJStI
import Derived.Deep.RegionHeld3
import Derived.Test.YtieobflhfcgliaaGreatJZoR
namespace Go.Proofs.YtieobflhfcgliaaGreat
open Go.RowKit
set_option linter.unusedVariables false
theorem gr_trans{w w1 w2:World}{row:Option Nat}(h1:w.grownBy w1 row)(h2:w1.grownBy w2 row):w.grownBy w2 row:=
 ⟨h2.os.trans h1.os,h2.tape.trans h1.tape,h2.output.trans h1.output,Nat.le_trans h1.size h2.size,fun k hk hn=>(h2.block k (Nat.lt_of_lt_of_le hk h1.size) hn).trans (h1.block k hk hn)⟩
theorem gr_set(W:World)(b i:Nat)(v:Value):W.grownBy (W.setCell ⟨b,i,none⟩ v) (some b):=
 ⟨rfl,rfl,rfl,by simp,fun k _ hk=>heap_setCell_other W ⟨b,i,none⟩ k _ (fun e=>hk (by rw [e]))⟩
theorem gr_refl(w:World)(row:Option Nat):w.grownBy w row:=⟨rfl,rfl,rfl,Nat.le_refl _,fun _ _ _=>rfl⟩
end Go.Proofs.YtieobflhfcgliaaGreat
namespace Go.Proofs.YtieobflhfcgliaaGreat
open Go.RowKit
def mks(k n:Nat):List ByteArray:=(List.range n).map (fun i=>mkS (k+i))
theorem mks_get{k n i:Nat}(h:i<n):(mks k n)[i]? =some (mkS (k+i)):=by simp [mks,h]
theorem mks_len(k n:Nat):(mks k n).length=n:=by simp [mks]
theorem mks_set{k n i:Nat}{xs:List Value}(hl:xs.length=n)(h:i<n):
 (((mks k n).take i).map Value.string++xs.drop i).set i (.string (mkS (k+i)))=((mks k n).take (i+1)).map Value.string++xs.drop (i+1):=by
 have h1:(((mks k n).take i).map Value.string).length=i:=by simp [mks_len];omega
 rw [Nm.take_step (mks_get h),List.set_append_right _ _ (by omega),h1,List.drop_eq_getElem_cons (by omega:i<xs.length),Nat.sub_self,List.set_cons_zero,List.map_append,List.append_assoc];rfl
set_option maxRecDepth 100000 in
set_option maxHeartbeats 800000 in
theorem heldStringS_any(v:Value)(n k:Nat)(w:World)(h:Nm.SRow w v (mks k n))(hn:n<=1000000)(hk:k<=1000000):
 Calls Tryz.prog 70 #[v,.int .i64 (k:Int)] w fun e w'=>e=.returned (.int .i64 ((k+n:Nat):Int))∧Below w.heap.size w w':=by
 obtain⟨a,cap,rfl,hcap,hmx,hnl,hc⟩:=h;rw [mks_len] at*;go_enter Tryz.func70,Tryz.ntmps70;go_wp2
 go_loopw [1,5] (fun t i wr=>∃ j:Nat,j<=n∧i=.int .i64 (j:Int)∧t=.int .i64 ((k+j:Nat):Int)∧Below w.heap.size w wr)
  (fun _ i _=>n-(intOf i).toNat)
 case atStart=>exact⟨0,Nat.zero_le _,rfl,rfl,Below.refl _ _⟩
 case round=>
  obtain⟨j,hj,rfl,rfl,hbel⟩:=hrel
  by_cases hlt:j<n
  ·obtain⟨b,off,rfl,hcell⟩:=hc (by intro h;have:=mks_len k n;rw [h] at this;simp at this;omega);have hx2:=hcell j _ (mks_get hlt);have hcx:wr.cell? ⟨b,off+j,none⟩=some (.string (mkS (k+j))):=(hbel.cell (World.block_lt_of_cell? w _ hx2)).trans hx2
   have hmt:∀ W:World,(W.cell? ⟨b,off+j,none⟩=some (.string (mkS (k+j)))∧Below w.heap.size w W)->Calls Tryz.prog 60 #[.int .i64 ((k:Int)+(j:Int))] W fun e w'=>e=.returned (.string (mkS (k+j)))∧(w'.cell? ⟨b,off+j,none⟩=some (.string (mkS (k+j)))∧Below w.heap.size w w'):=by
    intro W hS;have hm:=markText_any (k+j) W (by omega);rw [show(((k+j:Nat)):Int)=(k:Int)+(j:Int) by omega] at hm;refine hm.mono ?_;rintro e w' ⟨rfl,hbs⟩;exact⟨rfl,(hbs.cell (World.block_lt_of_cell? W _ hS.1)).trans hS.1,hS.2.trans (hbs.mono hS.2.size)⟩
   have hS0:wr.drew.cell? ⟨b,off+j,none⟩=some (.string (mkS (k+j)))∧Below w.heap.size w wr.drew:=⟨hcx,hbel.drew⟩;have i1:(0:Int)<=(j:Int):=by omega
   have i2:(j:Int)<(n:Int):=by omega
   have hbq:((mkS (k+j)).toList==(mkS (k+j)).toList)=true:=by simp
   generalize mkS (k+j)=x at*;clear hc hcell hx2;go_wp2;go_region_held3 (fun w'=>w'.cell? ⟨b,off+j,none⟩=some (.string x)∧Below w.heap.size w w') (first|assumption|exact hS0) ((first|(go_at_call 60;refine(hmt _ (by first|assumption|exact hS0)).mono ?_;rintro e w' ⟨rfl,hS1⟩)))
   go_wp2;go_roundw
   case rel=>exact⟨j+1,by omega,by go_num,by go_num,hS1.2⟩
   case measure=>simp [intOf];omega
  ·have hje:j=n:=by omega
   subst hje;clear hc;go_wp2;go_ret;exact⟨rfl,hbel⟩
end Go.Proofs.YtieobflhfcgliaaGreat
namespace Go.Proofs.YtieobflhfcgliaaGreat
open Go.RowKit
set_option linter.unusedVariables false
theorem gr_below{w w1 w2:World}{row:Option Nat}(h:w.grownBy w1 row)(h2:Below w1.heap.size w1 w2):w.grownBy w2 row:=
 ⟨h2.os.trans h.os,h2.tape.trans h.tape,h2.output.trans h.output,Nat.le_trans h.size h2.size,fun k hk hne=>(h2.block k (Nat.lt_of_lt_of_le hk h.size)).trans (h.block k hk hne)⟩
set_option maxRecDepth 100000 in
set_option maxHeartbeats 800000 in
theorem markStringS_own(v:Value)(n B k:Nat)(xs:List Value)(w:World)(hown:w.ownsRow B 9 1 v n xs)(hn:n<=1000000)(hk:k<=1000000):
 Calls Tryz.prog 61 #[v,.int .i64 (k:Int)] w fun e w'=>e=.returned (.int .i64 ((k+n:Nat):Int))∧w'.ownsRow B 9 1 v n ((mks k n).map Value.string)∧w.grownBy w' v.ownBlock:=by
 have hxl:xs.length=n:=by have:=hown.1;omega
 rcases Nat.eq_zero_or_pos n with h0|hpos
 ·subst h0
  obtain⟨a,cap,rfl⟩:∃ a cap,v=.slice a 0 cap:=by
   rcases hown.2 with⟨rfl,_⟩|⟨g,cap,cur,rfl,_⟩
   ·exact⟨_,_,rfl⟩
   ·exact⟨_,_,rfl⟩
  have hx0:xs=[]:=List.length_eq_zero_iff.1 hxl;subst hx0;go_enter Tryz.func61,Tryz.ntmps61;go_wp2
  go_loop [1,5] (fun t i=>t=.int .i64 (k:Int)∧i=.int .i64 0) (fun _ _=>0)
  case atStart=>exact⟨rfl,rfl⟩
  case round=>
   obtain⟨rfl,rfl⟩:=hrel;go_wp2;go_ret;exact⟨rfl,by simpa [mks] using hown,gr_refl _ _⟩
 ·obtain⟨g,cap,rfl,hBg⟩:∃ g cap,v=.slice (some ⟨g,0,none⟩) n cap∧B<=g:=by
   rcases hown.2 with⟨rfl,h0⟩|⟨g,cap,cur,rfl,hb,_⟩
   ·omega
   ·exact⟨g,cap,rfl,hb⟩
  have eb:(Value.slice (some ⟨g,0,none⟩) n cap).ownBlock=some g:=rfl;rw [eb];clear eb;go_enter Tryz.func61,Tryz.ntmps61;go_wp2
  go_loopw [1,5] (fun t i wr=>∃ j:Nat,j<=n∧i=.int .i64 (j:Int)∧t=.int .i64 ((k+j:Nat):Int)∧wr.ownsRow B 9 1 (.slice (some ⟨g,0,none⟩) n cap) n (((mks k n).take j).map Value.string++xs.drop j)∧w.grownBy wr (some g))
   (fun _ i _=>n-(intOf i).toNat)
  case atStart=>exact⟨0,Nat.zero_le _,rfl,rfl,by simpa using hown,gr_refl _ _⟩
  case round=>
   obtain⟨j,hj,rfl,rfl,hownj,hbel⟩:=hrel;clear hown
   by_cases hlt:j<n
   ·have HSET:=Nm.hide (mks_set (k:=k) hxl hlt)
    obtain⟨y,hy⟩:∃ y,wr.cell? ⟨g,j,none⟩=some y:=by
     rw [hownj.cellAt j (by omega)];exact⟨_,List.getElem?_eq_getElem (by simp [mks_len];omega)⟩
    go_wp2_with (go_at_call 60;refine(markText_any (k+j) _ (by omega)).mono ?_;rintro e w3 ⟨rfl,hbel3⟩;have hown3:=hownj.kept (w':=w3) (row:=none) ⟨hbel3.os,hbel3.tape,hbel3.output,hbel3.size,fun k hk _=>hbel3.block k hk⟩ (.inr (by simp [Value.ownBlock]));have hst:=hown3.stored j (.string (mkS (k+j)));rw [HSET.out] at hst;have hfz:=hown3.frozenAt j;have hc3:w3.cell? ⟨g,j,none⟩=some y:=(hbel3.cell (World.block_lt_of_cell? wr _ hy)).trans hy;have HR:=Nm.hide hst;have HB:=Nm.hide (gr_trans (gr_below hbel hbel3) (gr_set w3 g j (.string (mkS (k+j)))));clear hst hown3 hownj)
    go_roundw
    case rel=>exact⟨j+1,by omega,by go_num,by go_num,HR.out.1,HB.out⟩
    case measure=>simp [intOf];omega
   ·have hje:j=n:=by omega
    subst hje
    have HR:Hid (wr.ownsRow B 9 1 (.slice (some ⟨g,0,none⟩) j cap) j ((mks k j).map Value.string)):=by
     show wr.ownsRow _ _ _ _ _ _
     rw [List.take_of_length_le (by rw [mks_len];omega),List.drop_of_length_le (by omega),List.append_nil] at hownj;exact hownj
    clear hownj;go_wp2;go_ret;exact⟨rfl,HR.out,hbel⟩
def mkZp(k:Nat)(p:Zp):Zp:=(⟨mkS k,((k+1:Nat):Int),((k+2:Nat):Int),mks (k+3) p.1.da.length⟩,p.2)
def mkZ:Nat->List Zp->List Zp
 |_,[]=>[]
 |k,p::ps=>mkZp k p::mkZ (k+(p.1.da.length+3)) ps
theorem mkZ_len:∀ (ps:List Zp) (k:Nat),(mkZ k ps).length=ps.length:=by
 intro ps
 induction ps with
 |nil=>intro k;rfl
 |cons p ps ih=>intro k;simp [mkZ,ih]
theorem mkZ_get:∀ (ps:List Zp) (k j:Nat) (p:Zp),ps[j]? =some p->(mkZ k ps)[j]? =some (mkZp (k+zl (ps.take j)) p):=by
 intro ps
 induction ps with
 |nil=>intro k j p h;simp at h
 |cons q ps ih=>
  intro k j p h
  cases j with
  |zero=>
   simp at h;subst h
   simp [mkZ,zl]
  |succ j=>
   simp at h;rw [mkZ,List.getElem?_cons_succ,ih _ j p h,List.take_succ_cons,zl,Nat.add_assoc]
theorem mixZ_at{k j:Nat}{ps:List Zp}{p:Zp}(h:ps[j]? =some p):((mkZ k ps).take j++ps.drop j)[j]? =some p:=by
 have hj:=(List.getElem?_eq_some_iff.1 h).1;rw [List.getElem?_append_right (by rw [List.length_take,mkZ_len];omega),List.length_take,mkZ_len,Nat.min_eq_left (by omega),Nat.sub_self,List.getElem?_drop,Nat.add_zero,h]
theorem mixZ_set{k j:Nat}{ps:List Zp}{p:Zp}(h:ps[j]? =some p):((mkZ k ps).take j++ps.drop j).set j (mkZp (k+zl (ps.take j)) p)=(mkZ k ps).take (j+1)++ps.drop (j+1):=by
 have hj:=List.getElem?_eq_some_iff.1 h;have hg:=mkZ_get ps k j p h;have hl:((mkZ k ps).take j).length=j:=by rw [List.length_take,mkZ_len];have:=hj.1;omega
 rw [List.set_append_right _ _ (by omega),hl,Nat.sub_self,List.drop_eq_getElem_cons hj.1,List.set_cons_zero];have hg2:=List.getElem?_eq_some_iff.1 hg;rw [List.take_succ_eq_append_getElem hg2.1,hg2.2,List.append_assoc];rfl
theorem ZOwn.cell{w:World}{B g cap n j i:Nat}{ps:List Zp}{p q:Zp}{y:Value}(h:ZOwn w B (.slice (some ⟨g,0,none⟩) n cap) ps)(hn:n=ps.length)(hp:ps[j]? =some p)(hi:i<3)(hq2:q.2=p.2)(hqd:q.1.da=p.1.da)(hz:(zpV p).set i y=zpV q):ZOwn (w.setCell ⟨g,j*4+i,none⟩ y) B (.slice (some ⟨g,0,none⟩) n cap) (ps.set j q):=by
 have hj:=(List.getElem?_eq_some_iff.1 hp).1
 have e1:(zpVs ps).set (j*4+i) y=zpVs (ps.set j q):=by
  obtain⟨e2,e3⟩:ps=ps.take j++[p]++ps.drop (j+1)∧ps.set j q=ps.take j++[q]++ps.drop (j+1):=by
   have hj':=List.getElem?_eq_some_iff.1 hp;constructor
   ·conv=>lhs;rw [<- List.take_append_drop j ps,List.drop_eq_getElem_cons hj'.1,hj'.2]
    simp
   ·rw [List.set_eq_take_append_cons_drop,if_pos hj];simp
  have hl:(zpVs (ps.take j)).length=j*4:=by rw [zpVs_len,List.length_take];omega
  rw [e3]
  conv=>lhs;rw [e2]
  have hp4:(zpV p).length=4:=rfl;rw [zpVs_app,zpVs_app,zpVs_app,zpVs_app,List.append_assoc,List.append_assoc,List.set_append_right _ _ (by omega),hl,show j*4+i-j*4=i by omega];congr 1;have s1:zpVs [p]=zpV p:=by simp [zpVs]
  have s2:zpVs [q]=zpV q:=by simp [zpVs]
  rw [s1,s2,List.set_append_left _ _ (by omega),hz]
 have ho:=h.outer;rw [<- hn] at ho;have hst:=ho.stored (j*4+i) y;rw [e1] at hst;have far:∀ {v:Value} {n:Nat} {xs:List Value},w.ownsRow B 9 1 v n xs->(w.setCell ⟨g,j*4+i,none⟩ y).ownsRow B 9 1 v n xs:=fun hx=>own_far hx (own_kindsZ hx ho (by decide) g rfl)
 refine⟨by rw [List.length_set,<- hn];exact hst.1,fun m r hr=>?_,fun a b r s hr hs hne=>?_⟩
 ·rw [List.getElem?_set] at hr
  by_cases hm:j=m
  ·subst hm;rw [if_pos rfl,if_pos hj] at hr;obtain rfl:=Option.some.inj hr;have:=h.inner j p hp;rw [hq2,hqd];exact far this
  ·rw [if_neg hm] at hr;exact far (h.inner m r hr)
 ·have key:∀ (m:Nat) (r:Zp),(ps.set j q)[m]? =some r->∃ r',ps[m]? =some r'∧r'.2=r.2:=by
   intro m r hr;rw [List.getElem?_set] at hr
   by_cases hm:j=m
   ·subst hm;rw [if_pos rfl,if_pos hj] at hr;obtain rfl:=Option.some.inj hr;exact⟨p,hp,hq2.symm⟩
   ·rw [if_neg hm] at hr;exact⟨r,hr,rfl⟩
  obtain⟨r',h1,h2⟩:=key a r hr;obtain⟨s',h3,h4⟩:=key b s hs;rw [<- h2,<- h4];exact h.apart a b r' s' h1 h3 hne
theorem ZOwn.data{w w1:World}{B j:Nat}{v:Value}{ps:List Zp}{p:Zp}{da:List ByteArray}(h:ZOwn w B v ps)(hp:ps[j]? =some p)(hl:da.length=p.1.da.length)(ho:w1.ownsRow B 9 1 p.2 p.1.da.length (da.map Value.string))(hg:w.grownBy w1 p.2.ownBlock):ZOwn w1 B v (ps.set j ({p.1 with da:=da},p.2)):=by
 have hj:=(List.getElem?_eq_some_iff.1 hp).1;have hin:=h.inner j p hp
 have e1:zpVs (ps.set j ({p.1 with da:=da},p.2))=zpVs ps:=by
  have:∀ (l:List Zp) (i:Nat) (r:Zp),l[i]? =some r->∀ q,zpV q=zpV r->zpVs (l.set i q)=zpVs l:=by
   intro l
   induction l with
   |nil=>intro i r h;simp at h
   |cons x l ih=>
    intro i r h q hq
    cases i with
    |zero=>
     simp at h;subst h
     rw [List.set_cons_zero,zpVs_cons,zpVs_cons,hq]
    |succ i=>
     simp at h;rw [List.set_cons_succ,zpVs_cons,zpVs_cons,ih i r h q hq]
  exact this ps j p hp _ rfl
 have key:∀ (m:Nat) (r:Zp),(ps.set j ({p.1 with da:=da},p.2))[m]? =some r->(m=j∧r=({p.1 with da:=da},p.2))∨(m≠j∧ps[m]? =some r):=by
  intro m r hr;rw [List.getElem?_set] at hr
  by_cases hm:j=m
  ·subst hm;rw [if_pos rfl,if_pos hj] at hr;exact .inl ⟨rfl,(Option.some.inj hr).symm⟩
  ·rw [if_neg hm] at hr;exact .inr ⟨fun e=>hm e.symm,hr⟩
 refine⟨by rw [e1,List.length_set];exact own_besideZ h.outer hg (own_kindsZ h.outer hin (by decide)),fun m r hr=>?_,fun a b r s hr hs hne g e=>?_⟩
 ·rcases key m r hr with⟨_,rfl⟩|⟨hm,hr⟩
  ·simp only [hl];exact ho
  ·exact own_besideZ (h.inner m r hr) hg (fun g e=>fun e'=>h.apart m j r p hr hp hm g e' e)
 ·rcases key a r hr with⟨ha,rfl⟩|⟨ha,hr⟩<;>rcases key b s hs with⟨hb,rfl⟩|⟨hb,hs⟩
  ·omega
  ·exact h.apart a b p s (by rw [ha];exact hp) hs hne g e
  ·exact h.apart a b r p hr (by rw [hb];exact hp) hne g e
  ·exact h.apart a b r s hr hs hne g e
theorem grown_none{w w':World}(h:Below w.heap.size w w'):w.grownBy w' none:=⟨h.os,h.tape,h.output,h.size,fun k hk _=>h.block k hk⟩
def zfp(v:Value)(ps:List Zp):List Nat:=v.ownBlock.toList++ps.flatMap fun p=>p.2.ownBlock.toList
theorem gr_outs{fp:List Nat}{w W W':World}{row:Option Nat}(h:Outs fp w W)(hg:W.grownBy W' row)(hr:∀ g,row=some g->g∈fp):Outs fp w W':=
 ⟨hg.os.trans h.os,hg.tape.trans h.tape,hg.output.trans h.output,Nat.le_trans h.size hg.size,fun k hk hn=>(hg.block k (Nat.lt_of_lt_of_le hk h.size) (fun e=>hn (hr k e.symm))).trans (h.block k hk hn)⟩
set_option maxRecDepth 100000 in
set_option maxHeartbeats 1600000 in
theorem markSetS_own(v:Value)(qs:List Zp)(B k:Nat)(w:World)(h:ZOwn w B v qs)(hn:zl qs<=400000)(hk:k<=100000):
 Calls Tryz.prog 33 #[v,.int .i64 (k:Int)] w fun e w'=>e=.returned (.int .i64 ((k+zl qs:Nat):Int))∧ZOwn w' B v (mkZ k qs)∧Outs (zfp v qs) w w':=by
 have hql:=zl_len qs;have hmt:=fun(j:Nat) (hj:j<=1000000000) W=>markText_any j W hj
 obtain⟨a,cap,rfl⟩:=own_sl h.outer
 have hgex:0<qs.length->∃ g,a=some ⟨g,0,none⟩:=fun hp=>by
  rcases h.outer.2 with⟨e,h0⟩|⟨g,c,cur,e,_⟩
  ·omega
  ·cases e;exact⟨g,rfl⟩
 have H0:=Nm.hide h;clear h;go_enter Tryz.func33,Tryz.ntmps33;go_wp2
 go_loopw [1,5] (fun t i wr=>∃ j:Nat,j<=qs.length∧i=.int .i64 (j:Int)∧t=.int .i64 ((k:Int)+(zl (qs.take j):Int))∧ZOwn wr B (.slice a qs.length cap) ((mkZ k qs).take j++qs.drop j)∧Outs (zfp (.slice a qs.length cap) qs) w wr) (fun _ i _=>qs.length-(intOf i).toNat)
 case atStart=>exact⟨0,Nat.zero_le _,rfl,by simp [zl],by simpa using H0.out,Outs.below (Below.refl _ _)⟩
 case round=>
  obtain⟨j,hj,rfl,rfl,hz,hou⟩:=hrel
  by_cases hlt:j<qs.length
  ·obtain⟨q,hq⟩:∃ q,qs[j]? =some q:=⟨_,List.getElem?_eq_getElem hlt⟩;obtain⟨g,rfl⟩:=hgex (by omega);have hmx:=mixZ_at (k:=k) hq;have hst:=zl_step qs j q hq;have hle:=zl_take_le qs (j+1);have hone:=hmt (k+zl (qs.take j)) (by omega) wr;rw [show((k+zl (qs.take j):Nat):Int)=(k:Int)+(zl (qs.take j):Int) by omega] at hone;have hin:=hz.inner j q hmx;obtain⟨qa,qc,eq⟩:=own_sl hin;have hlen9:((mkZ k qs).take j++qs.drop j).length=qs.length:=by rw [List.length_append,List.length_take,mkZ_len,List.length_drop];omega
   have hms:∀ W,ZOwn W B (.slice (some ⟨g,0,none⟩) qs.length cap) (((mkZ k qs).take j++qs.drop j).set j (⟨mkS (k+zl (qs.take j)),((k+zl (qs.take j)+1:Nat):Int),((k+zl (qs.take j)+2:Nat):Int),q.1.da⟩,q.2))->Calls Tryz.prog 61 #[.slice qa q.1.da.length qc,.int .i64 ((k:Int)+(zl (qs.take j):Int)+1+1+1)] W fun e w'=>e=.returned (.int .i64 ((k:Int)+(zl (qs.take (j+1)):Int)))∧ZOwn w' B (.slice (some ⟨g,0,none⟩) qs.length cap) ((mkZ k qs).take (j+1)++qs.drop (j+1))∧W.grownBy w' q.2.ownBlock:=by
    intro W hW
    have hget:(((mkZ k qs).take j++qs.drop j).set j (⟨mkS (k+zl (qs.take j)),((k+zl (qs.take j)+1:Nat):Int),((k+zl (qs.take j)+2:Nat):Int),q.1.da⟩,q.2))[j]? =some (⟨mkS (k+zl (qs.take j)),((k+zl (qs.take j)+1:Nat):Int),((k+zl (qs.take j)+2:Nat):Int),q.1.da⟩,q.2):=by
     rw [List.getElem?_set];simp only [if_true];rw [if_pos (by omega)]
    have hi2:=hW.inner j _ hget;simp only at hi2
    have hm9:=markStringS_own q.2 q.1.da.length B (k+zl (qs.take j)+3) _ W hi2 (by omega) (by omega);rw [eq] at hm9;rw [show((k+zl (qs.take j)+3:Nat):Int)=(k:Int)+(zl (qs.take j):Int)+1+1+1 by omega] at hm9;refine hm9.mono ?_;rintro e w' ⟨rfl,ho,hg⟩;refine⟨by rw [show(k+zl (qs.take j)+3+q.1.da.length:Nat)=k+zl (qs.take (j+1)) by omega];congr 2,?_,by rw [eq];exact hg⟩;have hd:=hW.data (da:=mks (k+zl (qs.take j)+3) q.1.da.length) hget (by rw [mks_len]) (by rw [eq];exact ho) (by rw [eq];exact hg);rw [List.set_set] at hd;rw [<- mixZ_set hq];exact hd
   have hc0:∀ W,wr.grownBy W none->W.cell? ⟨g,j*4,none⟩=some (.string q.1.own)∧W.cell? ⟨g,j*4+1,none⟩=some (.int .i64 q.1.ty)∧W.cell? ⟨g,j*4+2,none⟩=some (.int .i64 q.1.tt)∧W.cell? ⟨g,j*4+3,none⟩=some (.slice qa q.1.da.length qc):=by
    have ho:=hz.outer;rw [hlen9] at ho;have c0:=(ho.cellAt (j*4) (by omega)).trans (zpVs_at _ j 0 q hmx (by decide));have c1:=(ho.cellAt (j*4+1) (by omega)).trans (zpVs_at _ j 1 q hmx (by decide));have c2:=(ho.cellAt (j*4+2) (by omega)).trans (zpVs_at _ j 2 q hmx (by decide));have c3:=(ho.cellAt (j*4+3) (by omega)).trans (zpVs_at _ j 3 q hmx (by decide));rw [<- eq];intro W hW;have hk:=fun(i:Nat)=>World.cell?_of_block (w:=wr) (w':=W) (a:=⟨g,i,none⟩) (hW.block g (World.block_lt_of_cell? wr _ c0) (by simp))
    exact⟨(hk _).trans c0,(hk _).trans c1,(hk _).trans c2,(hk _).trans c3⟩
   have hfz:∀ W i,wr.grownBy W none->W.frozen? ⟨g,i,none⟩=false:=by
    intro W i hW;have ho:=own_besideZ hz.outer hW (fun g e=>by cases e);rw [hlen9] at ho;exact ho.frozenAt i
   have hgq:g∈zfp (.slice (some ⟨g,0,none⟩) qs.length cap) qs:=by simp [zfp,Value.ownBlock]
   have hqq:∀ g',q.2.ownBlock=some g'->g'∈zfp (.slice (some ⟨g,0,none⟩) qs.length cap) qs:=fun g' e=>by
    simp only [zfp,List.mem_append,List.mem_flatMap];exact .inr ⟨q,List.mem_of_getElem? hq,by rw [e];simp⟩
   have hstores:∀ W,Below wr.heap.size wr W->ZOwn (((W.setCell ⟨g,j*4,none⟩ (.string (mkS (k+zl (qs.take j))))).setCell ⟨g,j*4+1,none⟩ (.int .i64 ((k:Int)+(zl (qs.take j):Int)+1))).setCell ⟨g,j*4+2,none⟩ (.int .i64 ((k:Int)+(zl (qs.take j):Int)+1+1))) B (.slice (some ⟨g,0,none⟩) qs.length cap) (((mkZ k qs).take j++qs.drop j).set j (⟨mkS (k+zl (qs.take j)),((k+zl (qs.take j)+1:Nat):Int),((k+zl (qs.take j)+2:Nat):Int),q.1.da⟩,q.2)):=by
    intro W hW;have z1:=hz.below hW;have zA:=ZOwn.cell (i:=0) (y:=.string (mkS (k+zl (qs.take j)))) (q:=(⟨mkS (k+zl (qs.take j)),q.1.ty,q.1.tt,q.1.da⟩,q.2)) z1 hlen9.symm hmx (by decide) rfl rfl rfl
    have gA:(((mkZ k qs).take j++qs.drop j).set j (⟨mkS (k+zl (qs.take j)),q.1.ty,q.1.tt,q.1.da⟩,q.2))[j]? =some (⟨mkS (k+zl (qs.take j)),q.1.ty,q.1.tt,q.1.da⟩,q.2):=by
     rw [List.getElem?_set];simp only [if_true];rw [if_pos (by omega)]
    have zB:=ZOwn.cell (i:=1) (y:=.int .i64 ((k:Int)+(zl (qs.take j):Int)+1)) (q:=(⟨mkS (k+zl (qs.take j)),(k:Int)+(zl (qs.take j):Int)+1,q.1.tt,q.1.da⟩,q.2)) zA (by rw [List.length_set,hlen9]) gA (by decide) rfl rfl rfl;rw [List.set_set] at zB
    have gB:(((mkZ k qs).take j++qs.drop j).set j (⟨mkS (k+zl (qs.take j)),(k:Int)+(zl (qs.take j):Int)+1,q.1.tt,q.1.da⟩,q.2))[j]? =some (⟨mkS (k+zl (qs.take j)),(k:Int)+(zl (qs.take j):Int)+1,q.1.tt,q.1.da⟩,q.2):=by
     rw [List.getElem?_set];simp only [if_true];rw [if_pos (by omega)]
    have zC:=ZOwn.cell (i:=2) (y:=.int .i64 ((k:Int)+(zl (qs.take j):Int)+1+1)) (q:=(⟨mkS (k+zl (qs.take j)),(k:Int)+(zl (qs.take j):Int)+1,(k:Int)+(zl (qs.take j):Int)+1+1,q.1.da⟩,q.2)) zB (by rw [List.length_set,hlen9]) gB (by decide) rfl rfl rfl;rw [List.set_set] at zC;rw [show((k+zl (qs.take j)+1:Nat):Int)=(k:Int)+(zl (qs.take j):Int)+1 by omega,show((k+zl (qs.take j)+2:Nat):Int)=(k:Int)+(zl (qs.take j):Int)+1+1 by omega];exact zC
   have HH:=Nm.hide (And.intro hstores (And.intro hms (And.intro hc0 (And.intro hfz (And.intro hgq (And.intro hqq hou))))));have i1:(0:Int)<=(j:Int):=by omega
   have i2:(j:Int)<(qs.length:Int):=by omega
   have hzb:zl (qs.take j)<=400000:=by omega
   clear hstores hms hc0 hfz hgq hqq hou hz hmx hin eq hlen9 hmt hq hst;generalize hz0:zl (qs.take j)=z0 at*;have HZ0:=Nm.hide hz0;clear hz0;generalize hz1:zl (qs.take (j+1))=z1 at*;have HZ1:=Nm.hide hz1;clear hz1
   go_wp2_with (first
    |(go_at_call 60
      refine hone.mono ?_;rintro e w1 ⟨rfl,hb1⟩;have hgn:=grown_none hb1;obtain⟨c0,c1,c2,c3⟩:=HH.out.2.2.1 w1 hgn
      have f1:=fun i=>HH.out.2.2.2.1 w1 i hgn)
    |(go_at_call 61
      refine(HH.out.2.1 _ (HH.out.1 w1 hb1)).mono ?_
      rintro e w5 ⟨rfl,hz5,hg5⟩))
   go_roundw
   case rel=>
    refine⟨j+1,by omega,by go_num,by rw [HZ1.out],hz5,?_⟩;have o1:=HH.out.2.2.2.2.2.2.trans (Outs.below (fp:=zfp (.slice (some ⟨g,0,none⟩) qs.length cap) qs) hb1) (fun k hk=>.inl hk);have gm:∀ g',some g=some g'->g'∈zfp (.slice (some ⟨g,0,none⟩) qs.length cap) qs:=fun g' e=>by cases e;exact HH.out.2.2.2.2.1
    exact gr_outs (gr_outs (gr_outs (gr_outs o1 (gr_set _ g _ _) gm) (gr_set _ g _ _) gm) (gr_set _ g _ _) gm) hg5 HH.out.2.2.2.2.2.1
   case measure=>simp [intOf];omega
  ·have hjn:j=qs.length:=by omega
   subst hjn;rw [List.drop_length,List.append_nil,List.take_of_length_le (by rw [mkZ_len];exact Nat.le_refl _)] at hz;clear hmt;have i2:(qs.length:Int)<=(qs.length:Int):=by omega
   rw [List.take_length];go_wp2;go_ret;exact⟨by rw [show((k+zl qs:Nat):Int)=(k:Int)+(zl qs:Int) by omega];rfl,hz,hou⟩
set_option maxRecDepth 100000 in
set_option maxHeartbeats 1600000 in
theorem heldSetS_any(v:Value)(qs:List Zp)(k:Nat)(w:World)(h:ZRow w v (mkZ k qs))(hn:zl qs<=400000)(hk:k<=100000):
 Calls Tryz.prog 42 #[v,.int .i64 (k:Int)] w fun e w'=>e=.returned (.int .i64 ((k+zl qs:Nat):Int))∧Below w.heap.size w w':=by
 obtain⟨⟨_,a,cap,e0,hcap,hmx,hc⟩,hd⟩:=h;rw [mkZ_len] at*;subst e0;have hql:=zl_len qs;go_enter Tryz.func42,Tryz.ntmps42;go_wp2
 go_loopw [1,5] (fun t i wr=>∃ j:Nat,j<=qs.length∧i=.int .i64 (j:Int)∧t=.int .i64 ((k:Int)+(zl (qs.take j):Int))∧Below w.heap.size w wr) (fun _ i _=>qs.length-(intOf i).toNat)
 case atStart=>exact⟨0,Nat.zero_le _,rfl,by simp [zl],Below.refl _ _⟩
 case round=>
  obtain⟨j,hj,rfl,rfl,hbel⟩:=hrel
  by_cases hlt:j<qs.length
  ·obtain⟨q,hq⟩:∃ q,qs[j]? =some q:=⟨_,List.getElem?_eq_getElem hlt⟩;obtain⟨b,off,rfl,hcell⟩:=hc (by omega);have hmq:=mkZ_get qs k j q hq;obtain⟨c0,c1,c2,c3⟩:=zp_cells hcell hmq;have hsr:=hd _ (List.mem_of_getElem? hmq);simp only [mkZp] at c0 c1 c2 c3 hsr;have hst:=zl_step qs j q hq;have hle:=zl_take_le qs (j+1);have hzb:zl (qs.take j)<=400000:=by omega
   have hsr9:=hsr;obtain⟨qa,qc,eq,_⟩:=hsr9;rw [mks_len] at eq;rw [eq] at c3 hsr;have hhs:=fun W (hW:Below w.heap.size w W)=>heldStringS_any (.slice qa q.1.da.length qc) q.1.da.length (k+zl (qs.take j)+3) W (hsr.below hW) (by omega) (by omega)
   rw [show((k+zl (qs.take j)+3:Nat):Int)=(k:Int)+(zl (qs.take j):Int)+1+1+1 by omega,show((k+zl (qs.take j)+3+q.1.da.length:Nat):Int)=(k:Int)+(zl (qs.take (j+1)):Int) by omega] at hhs;rw [show((k+zl (qs.take j)+1:Nat):Int)=(k:Int)+(zl (qs.take j):Int)+1 by omega] at c1;rw [show((k+zl (qs.take j)+2:Nat):Int)=(k:Int)+(zl (qs.take j):Int)+1+1 by omega] at c2;have hS:∀ W,Below w.heap.size w W->W.cell? ⟨b,off+j*4,none⟩=some (.string (mkS (k+zl (qs.take j))))∧Below w.heap.size w W:=fun W hW=>⟨(hW.cell (World.block_lt_of_cell? w _ c0)).trans c0,hW⟩
   have hS12:∀ W,Below w.heap.size w W->W.cell? ⟨b,off+j*4+1,none⟩=some (.int .i64 ((k:Int)+(zl (qs.take j):Int)+1))∧W.cell? ⟨b,off+j*4+2,none⟩=some (.int .i64 ((k:Int)+(zl (qs.take j):Int)+1+1))∧W.cell? ⟨b,off+j*4+3,none⟩=some (.slice qa q.1.da.length qc):=fun W hW=>⟨(hW.cell (World.block_lt_of_cell? w _ c1)).trans c1,(hW.cell (World.block_lt_of_cell? w _ c2)).trans c2,(hW.cell (World.block_lt_of_cell? w _ c3)).trans c3⟩
   have hS0:=hS wr.drew hbel.drew;have hmt:=fun W (hW:Below w.heap.size w W)=>(markText_any (k+zl (qs.take j)) W (by omega)).mono (R':=fun e w'=>e=.returned (.string (mkS (k+zl (qs.take j))))∧Below w.heap.size w w') (by rintro e w' ⟨he,hb⟩;exact⟨he,hW.trans (hb.mono hW.size)⟩)
   rw [show(((k+zl (qs.take j):Nat)):Int)=(k:Int)+(zl (qs.take j):Int) by omega] at hmt;have hfin:0<=(k:Int)+(zl (qs.take (j+1)):Int):=by omega
   have hbig:zl (qs.take (j+1))<=400000:=by omega
   generalize hz0:zl (qs.take j)=z0 at*;clear hz0 hst;generalize hz1:zl (qs.take (j+1))=z1 at*;have HZ1:=Nm.hide hz1;clear hz1;obtain⟨e3,e4⟩:((mkS (k+z0)).toList != (mkS (k+z0)).toList)=false∧((mkS (k+z0)).toList==(mkS (k+z0)).toList)=true:=by simp
   have hne:((k:Int)+(z0:Int)+1 != (k:Int)+(z0:Int)+1)=false:=by simp
   have hne2:((k:Int)+(z0:Int)+1+1 != (k:Int)+(z0:Int)+1+1)=false:=by simp
   have i1:(0:Int)<=(j:Int):=by omega
   have i2:(j:Int)<(qs.length:Int):=by omega
   generalize mkS (k+z0)=ms at*;clear hc hcell c0 c1 c2 c3 hd hsr hmq eq hq;go_wp2;go_region_held3 (fun W=>W.cell? ⟨b,off+j*4,none⟩=some (.string ms)∧Below w.heap.size w W) (first|with_reducible assumption|with_reducible exact hS0) ((first|(go_at_call 60;with_reducible refine(hmt _ hS0.2).mono ?_;rintro e w1 ⟨rfl,hb1⟩;have hS1:=hS _ hb1)))
   obtain⟨g1,g2,g3⟩:=hS12 _ hS1.2;have hh1:=hhs _ hS1.2;clear hhs hS12 hmt hS;go_wp2_with (go_at_call 70;refine hh1.mono ?_;rintro e w2 ⟨rfl,hb2⟩)
   go_roundw
   case rel=>exact⟨j+1,by omega,by go_num,by rw [HZ1.out],Nm.below_two hS1.2 hb2⟩
   case measure=>simp [intOf];omega
  ·have hjn:j=qs.length:=by omega
   subst hjn;clear hc hd;rw [List.take_length];go_wp2;go_ret;exact⟨by rw [show((k+zl qs:Nat):Int)=(k:Int)+(zl qs:Int) by omega];rfl,hbel⟩
set_option maxRecDepth 100000 in
set_option maxHeartbeats 800000 in
theorem markZone_own(o:ByteArray)(v:Value)(qs:List Zp)(B k:Nat)(w:World)(h:ZOwn w B v qs)(hn:zl qs<=400000)(hk:k<=100000):
 Calls Tryz.prog 11 #[.agg #[.string o,v],.int .i64 (k:Int)] w fun e w'=>e=.returned (.int .i64 ((k+zl qs:Nat):Int))∧ZOwn w' B v (mkZ k qs)∧Outs (zfp v qs) w w':=by
 have hB:=(Below.refl w.heap.size w).alloc (Nat.le_refl _) (.cells #[.string o,v] 35);have hone:=markSetS_own v qs B k _ (h.below hB) hn hk;obtain⟨a,cap,rfl⟩:=own_sl h.outer;clear h;go_enter Tryz.func11,Tryz.ntmps11;go_wp2_with (go_at_call 33;refine hone.mono ?_;rintro e w1 ⟨rfl,hz,hm⟩)
 go_ret;exact⟨rfl,hz,(Outs.below (fp:=zfp (.slice a qs.length cap) qs) hB).trans hm (fun k hk=>.inl hk)⟩
set_option maxRecDepth 100000 in
set_option maxHeartbeats 800000 in
theorem heldZone_any(o:ByteArray)(v:Value)(qs:List Zp)(k:Nat)(w:World)(h:ZRow w v (mkZ k qs))(hn:zl qs<=400000)(hk:k<=100000):
 Calls Tryz.prog 18 #[.agg #[.string o,v],.int .i64 (k:Int)] w fun e w'=>e=.returned (.int .i64 ((k+zl qs:Nat):Int))∧Below w.heap.size w w':=by
 have hB:=(Below.refl w.heap.size w).alloc (Nat.le_refl _) (.cells #[.string o,v] 35);have hone:=heldSetS_any v qs k _ (h.below hB) hn hk;obtain⟨⟨_,a,cap,rfl,_⟩,_⟩:=h;rw [mkZ_len] at*;have hnn:(0:Int)<=((k+zl qs:Nat):Int):=by omega
 generalize ((k+zl qs:Nat):Int)=R at*;go_enter Tryz.func18,Tryz.ntmps18;go_wp2_with (go_at_call 42;refine hone.mono ?_;rintro e w1 ⟨rfl,hb⟩)
 go_ret;exact⟨rfl,Nm.below_two hB hb⟩
theorem zl_bound:∀ (ps:List Zp) (N M:Nat),(∀ p∈ps,p.1.da.length<=N)->ps.length<=M->zl ps<=M*(N+3):=by
 intro ps
 induction ps with
 |nil=>intro N M _ _;simp [zl]
 |cons p ps ih=>
  intro N M h hl;obtain⟨m,rfl⟩:∃ m,M=m+1:=⟨M-1,by simp at hl;omega⟩;have h1:=ih N m (fun q hq=>h q (by simp [hq])) (by simp at hl;omega);have h2:=h p (by simp);have h3:(m+1)*(N+3)=m*(N+3)+(N+3):=by rw [Nat.add_mul];simp
  rw [zl,h3];omega
theorem bz_zl{list:List Rr}{apex:ByteArray}{ps:List Zp}(h:ps.map (·.1)=bzZ list apex):zl ps<=400000∧∀ q∈ps,q.1.da.length<=1000000000:=by
 have key:(∀ p∈ps,p.1.da.length<=500)∧ps.length<=500:=by
  by_cases hc:(bldE list apex).1=0
  ·rw [bzZ,if_pos hc] at h
   have hl:list.length<=500:=by
    rcases Nat.lt_or_ge 500 list.length with h9|h9
    ·exfalso
     by_cases hq:(Nm.split apex).isSome=false
     ·rw [bldE,if_pos hq] at hc;cases hc
     ·rw [bldE,if_neg hq,if_pos h9] at hc;cases hc
    ·exact h9
   have hs:(srtOf list).length<=500:=by
    rw [srtOf,sortI,(sortF_perm _ _).length_eq,restOf];refine Nat.le_trans (List.length_filter_le _ _) ?_;rw [itsOf,twI_len,List.length_map];exact hl
   have hg:=grpK_len (l:=itsOf list) (srt:=srtOf list) (srtOf list).length (Nat.le_refl _);have hlen:=congrArg List.length h;rw [List.length_map,bldZ] at hlen;refine⟨fun p hp=>?_,by have:=hg.1;omega⟩;have hm:p.1∈ps.map (·.1):=List.mem_map.2 ⟨p,hp,rfl⟩;rw [h,bldZ] at hm;have:=hg.2 _ hm;omega
  ·rw [bzZ,if_neg hc] at h;have:ps=[]:=List.map_eq_nil_iff.1 h;subst this;exact⟨by simp,by simp⟩
 have:=zl_bound ps 500 500 key.1 key.2;exact⟨by omega,fun q hq=>by have:=key.1 q hq;omega⟩
theorem outs_base{fp:List Nat}{B:Nat}{w w':World}(h:Outs fp w w')(hB:B<=w.heap.size)(hf:∀ b∈fp,B<=b):Below B w w':=
 ⟨h.os,h.tape,h.output,h.size,fun k hk=>h.block k (by omega) (fun hm=>by have:=hf k hm;omega)⟩
theorem zfp_ge{w:World}{B:Nat}{v:Value}{ps:List Zp}(h:ZOwn w B v ps):∀ b∈zfp v ps,B<=b:=by
 intro b hb;simp only [zfp,List.mem_append,List.mem_flatMap] at hb
 rcases hb with hb|⟨p,hp,hb⟩
 ·cases hv:v.ownBlock with
  |none=>rw [hv] at hb;simp at hb
  |some q=>rw [hv] at hb;simp at hb;subst hb;exact(h.outer.lt _ hv).1
 ·obtain⟨i,hi⟩:=List.getElem?_of_mem hp
  cases hv:p.2.ownBlock with
  |none=>rw [hv] at hb;simp at hb
  |some q=>rw [hv] at hb;simp at hb;subst hb;exact((h.inner i p hi).lt _ hv).1
end Go.Proofs.YtieobflhfcgliaaGreat
