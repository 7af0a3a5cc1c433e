import Derived.Test.YtcodajnebegdiaaGreatJMath
import Derived.Test.YtcodajnebegdiaaGreatJLoC
import Derived.Test.YtcodajnebegdiaaGreatJTbBI
import Derived.RangeFuncBox
import Derived.Test.YtcodajnebegdiaaGreatJFnS
import Derived.Test.YtcodajnebegdiaaGreatJSSmall
import Derived.Test.YtcodajnebegdiaaGreatJZbB
import Derived.Test.YtcodajnebegdiaaGreatJTbGI
import Derived.RegionTactic
import Derived.BigRegion
import Derived.Maps.AppendAt
namespace Go.Proofs.YtcodajnebegdiaaGreat
open Go.RowKit
set_option linter.unusedVariables false
theorem gr_trans{w w1 w2:World}{row:Option Nat}(h1:w.grownBy w1 row)(h2:w1.grownBy w2 row):w.grownBy w2 row:=
 ⟨h2.os.trans h1.os,h2.tape.trans h1.tape,h2.output.trans h1.output,Nat.le_trans h1.size h2.size,fun k hk hn=>(h2.block k (Nat.lt_of_lt_of_le hk h1.size) hn).trans (h1.block k hk hn)⟩
theorem gr_set(W:World)(b i:Nat)(v:Value):W.grownBy (W.setCell ⟨b,i,none⟩ v) (some b):=
 ⟨rfl,rfl,rfl,by simp,fun k _ hk=>heap_setCell_other W ⟨b,i,none⟩ k _ (fun e=>hk (by rw [e]))⟩
theorem gr_refl(w:World)(row:Option Nat):w.grownBy w row:=⟨rfl,rfl,rfl,Nat.le_refl _,fun _ _ _=>rfl⟩
end Go.Proofs.YtcodajnebegdiaaGreat
namespace Go.Proofs.YtcodajnebegdiaaGreat
open Go.RowKit
def mks(k n:Nat):List ByteArray:=(List.range n).map (fun i=>mkS (k+i))
theorem mks_get{k n i:Nat}(h:i<n):(mks k n)[i]? =some (mkS (k+i)):=by simp [mks,h]
theorem mks_len(k n:Nat):(mks k n).length=n:=by simp [mks]
theorem mks_set{k n i:Nat}{xs:List Value}(hl:xs.length=n)(h:i<n):
 (((mks k n).take i).map Value.string++xs.drop i).set i (.string (mkS (k+i)))=((mks k n).take (i+1)).map Value.string++xs.drop (i+1):=by
 have h1:(((mks k n).take i).map Value.string).length=i:=by simp [mks_len];omega
 rw [Nm.take_step (mks_get h),List.set_append_right _ _ (by omega),h1,List.drop_eq_getElem_cons (by omega:i<xs.length),Nat.sub_self,List.set_cons_zero,List.map_append,List.append_assoc];rfl
set_option maxRecDepth 100000 in
set_option maxHeartbeats 800000 in
theorem heldStringS_any(v:Value)(n k:Nat)(w:World)(h:Nm.SRow w v (mks k n))(hn:n<=1000000)(hk:k<=1000000):
 Calls Tryz.prog 65 #[v,.int .i64 (k:Int)] w fun e w'=>e=.returned (.int .i64 ((k+n:Nat):Int))∧Below w.heap.size w w':=by
 obtain⟨a,cap,rfl,hcap,hmx,hnl,hc⟩:=h;rw [mks_len] at*;go_enter Tryz.func65,Tryz.ntmps65;go_wp2
 go_loopw [1,5] (fun t i wr=>∃ j:Nat,j<=n∧i=.int .i64 (j:Int)∧t=.int .i64 ((k+j:Nat):Int)∧Below w.heap.size w wr)
  (fun _ i _=>n-(intOf i).toNat)
 case atStart=>exact⟨0,Nat.zero_le _,rfl,rfl,Below.refl _ _⟩
 case round=>
  obtain⟨j,hj,rfl,rfl,hbel⟩:=hrel
  by_cases hlt:j<n
  ·obtain⟨b,off,rfl,hcell⟩:=hc (by intro h;have:=mks_len k n;rw [h] at this;simp at this;omega);have hx2:=hcell j _ (mks_get hlt);have hcx:wr.cell? ⟨b,off+j,none⟩=some (.string (mkS (k+j))):=(hbel.cell (World.block_lt_of_cell? w _ hx2)).trans hx2
   have hmt:∀ W:World,(W.cell? ⟨b,off+j,none⟩=some (.string (mkS (k+j)))∧Below w.heap.size w W)->Calls Tryz.prog 63 #[.int .i64 ((k:Int)+(j:Int))] W fun e w'=>e=.returned (.string (mkS (k+j)))∧(w'.cell? ⟨b,off+j,none⟩=some (.string (mkS (k+j)))∧Below w.heap.size w w'):=by
    intro W hS;have hm:=markText_any (k+j) W (by omega);rw [show(((k+j:Nat)):Int)=(k:Int)+(j:Int) by omega] at hm;refine hm.mono ?_;rintro e w' ⟨rfl,hbs⟩;exact⟨rfl,(hbs.cell (World.block_lt_of_cell? W _ hS.1)).trans hS.1,hS.2.trans (hbs.mono hS.2.size)⟩
   have hS0:wr.drew.cell? ⟨b,off+j,none⟩=some (.string (mkS (k+j)))∧Below w.heap.size w wr.drew:=⟨hcx,hbel.drew⟩;have i1:(0:Int)<=(j:Int):=by omega
   have i2:(j:Int)<(n:Int):=by omega
   have hbq:((mkS (k+j)).toList==(mkS (k+j)).toList)=true:=by simp
   generalize mkS (k+j)=x at*;clear hc hcell hx2;go_wp2;go_region_held3 (fun w'=>w'.cell? ⟨b,off+j,none⟩=some (.string x)∧Below w.heap.size w w') (first|assumption|exact hS0) ((first|(go_at_call 63;refine(hmt _ (by first|assumption|exact hS0)).mono ?_;rintro e w' ⟨rfl,hS1⟩)))
   go_wp2;go_roundw
   case rel=>exact⟨j+1,by omega,by go_num,by go_num,hS1.2⟩
   case measure=>simp [intOf];omega
  ·have hje:j=n:=by omega
   subst hje;clear hc;go_wp2;go_ret;exact⟨rfl,hbel⟩
end Go.Proofs.YtcodajnebegdiaaGreat
namespace Go.Proofs.YtcodajnebegdiaaGreat
open Go.RowKit
set_option linter.unusedVariables false
theorem gr_below{w w1 w2:World}{row:Option Nat}(h:w.grownBy w1 row)(h2:Below w1.heap.size w1 w2):w.grownBy w2 row:=
 ⟨h2.os.trans h.os,h2.tape.trans h.tape,h2.output.trans h.output,Nat.le_trans h.size h2.size,fun k hk hne=>(h2.block k (Nat.lt_of_lt_of_le hk h.size)).trans (h.block k hk hne)⟩
set_option maxRecDepth 100000 in
set_option maxHeartbeats 800000 in
theorem markStringS_own(v:Value)(n B k:Nat)(xs:List Value)(w:World)(hown:w.ownsRow B 9 1 v n xs)(hn:n<=1000000)(hk:k<=1000000):
 Calls Tryz.prog 64 #[v,.int .i64 (k:Int)] w fun e w'=>e=.returned (.int .i64 ((k+n:Nat):Int))∧w'.ownsRow B 9 1 v n ((mks k n).map Value.string)∧w.grownBy w' v.ownBlock:=by
 have hxl:xs.length=n:=by have:=hown.1;omega
 rcases Nat.eq_zero_or_pos n with h0|hpos
 ·subst h0
  obtain⟨a,cap,rfl⟩:∃ a cap,v=.slice a 0 cap:=by
   rcases hown.2 with⟨rfl,_⟩|⟨g,cap,cur,rfl,_⟩
   ·exact⟨_,_,rfl⟩
   ·exact⟨_,_,rfl⟩
  have hx0:xs=[]:=List.length_eq_zero_iff.1 hxl;subst hx0;go_enter Tryz.func64,Tryz.ntmps64;go_wp2
  go_loop [1,5] (fun t i=>t=.int .i64 (k:Int)∧i=.int .i64 0) (fun _ _=>0)
  case atStart=>exact⟨rfl,rfl⟩
  case round=>
   obtain⟨rfl,rfl⟩:=hrel;go_wp2;go_ret;exact⟨rfl,by simpa [mks] using hown,gr_refl _ _⟩
 ·obtain⟨g,cap,rfl,hBg⟩:∃ g cap,v=.slice (some ⟨g,0,none⟩) n cap∧B<=g:=by
   rcases hown.2 with⟨rfl,h0⟩|⟨g,cap,cur,rfl,hb,_⟩
   ·omega
   ·exact⟨g,cap,rfl,hb⟩
  have eb:(Value.slice (some ⟨g,0,none⟩) n cap).ownBlock=some g:=rfl;rw [eb];clear eb;go_enter Tryz.func64,Tryz.ntmps64;go_wp2
  go_loopw [1,5] (fun t i wr=>∃ j:Nat,j<=n∧i=.int .i64 (j:Int)∧t=.int .i64 ((k+j:Nat):Int)∧wr.ownsRow B 9 1 (.slice (some ⟨g,0,none⟩) n cap) n (((mks k n).take j).map Value.string++xs.drop j)∧w.grownBy wr (some g))
   (fun _ i _=>n-(intOf i).toNat)
  case atStart=>exact⟨0,Nat.zero_le _,rfl,rfl,by simpa using hown,gr_refl _ _⟩
  case round=>
   obtain⟨j,hj,rfl,rfl,hownj,hbel⟩:=hrel;clear hown
   by_cases hlt:j<n
   ·have HSET:=Nm.hide (mks_set (k:=k) hxl hlt)
    obtain⟨y,hy⟩:∃ y,wr.cell? ⟨g,j,none⟩=some y:=by
     rw [hownj.cellAt j (by omega)];exact⟨_,List.getElem?_eq_getElem (by simp [mks_len];omega)⟩
    go_wp2_with (go_at_call 63;refine(markText_any (k+j) _ (by omega)).mono ?_;rintro e w3 ⟨rfl,hbel3⟩;have hown3:=hownj.kept (w':=w3) (row:=none) ⟨hbel3.os,hbel3.tape,hbel3.output,hbel3.size,fun k hk _=>hbel3.block k hk⟩ (.inr (by simp [Value.ownBlock]));have hst:=hown3.stored j (.string (mkS (k+j)));rw [HSET.out] at hst;have hfz:=hown3.frozenAt j;have hc3:w3.cell? ⟨g,j,none⟩=some y:=(hbel3.cell (World.block_lt_of_cell? wr _ hy)).trans hy;have HR:=Nm.hide hst;have HB:=Nm.hide (gr_trans (gr_below hbel hbel3) (gr_set w3 g j (.string (mkS (k+j)))));clear hst hown3 hownj)
    go_roundw
    case rel=>exact⟨j+1,by omega,by go_num,by go_num,HR.out.1,HB.out⟩
    case measure=>simp [intOf];omega
   ·have hje:j=n:=by omega
    subst hje
    have HR:Hid (wr.ownsRow B 9 1 (.slice (some ⟨g,0,none⟩) j cap) j ((mks k j).map Value.string)):=by
     show wr.ownsRow _ _ _ _ _ _
     rw [List.take_of_length_le (by rw [mks_len];omega),List.drop_of_length_le (by omega),List.append_nil] at hownj;exact hownj
    clear hownj;go_wp2;go_ret;exact⟨rfl,HR.out,hbel⟩
def mkZp(k:Nat)(p:Zp):Zp:=(⟨mkS k,((k+1:Nat):Int),((k+2:Nat):Int),mks (k+3) p.1.da.length⟩,p.2)
def mkZ:Nat->List Zp->List Zp
 |_,[]=>[]
 |k,p::ps=>mkZp k p::mkZ (k+(p.1.da.length+3)) ps
theorem mkZ_len:∀ (ps:List Zp) (k:Nat),(mkZ k ps).length=ps.length:=by
 intro ps
 induction ps with
 |nil=>intro k;rfl
 |cons p ps ih=>intro k;simp [mkZ,ih]
theorem mkZ_get:∀ (ps:List Zp) (k j:Nat) (p:Zp),ps[j]? =some p->(mkZ k ps)[j]? =some (mkZp (k+zl (ps.take j)) p):=by
 intro ps
 induction ps with
 |nil=>intro k j p h;simp at h
 |cons q ps ih=>
  intro k j p h
  cases j with
  |zero=>
   simp at h;subst h
   simp [mkZ,zl]
  |succ j=>
   simp at h;rw [mkZ,List.getElem?_cons_succ,ih _ j p h,List.take_succ_cons,zl,Nat.add_assoc]
theorem mixZ_at{k j:Nat}{ps:List Zp}{p:Zp}(h:ps[j]? =some p):((mkZ k ps).take j++ps.drop j)[j]? =some p:=by
 have hj:=(List.getElem?_eq_some_iff.1 h).1;rw [List.getElem?_append_right (by rw [List.length_take,mkZ_len];omega),List.length_take,mkZ_len,Nat.min_eq_left (by omega),Nat.sub_self,List.getElem?_drop,Nat.add_zero,h]
theorem mixZ_set{k j:Nat}{ps:List Zp}{p:Zp}(h:ps[j]? =some p):((mkZ k ps).take j++ps.drop j).set j (mkZp (k+zl (ps.take j)) p)=(mkZ k ps).take (j+1)++ps.drop (j+1):=by
 have hj:=List.getElem?_eq_some_iff.1 h;have hg:=mkZ_get ps k j p h;have hl:((mkZ k ps).take j).length=j:=by rw [List.length_take,mkZ_len];have:=hj.1;omega
 rw [List.set_append_right _ _ (by omega),hl,Nat.sub_self,List.drop_eq_getElem_cons hj.1,List.set_cons_zero];have hg2:=List.getElem?_eq_some_iff.1 hg;rw [List.take_succ_eq_append_getElem hg2.1,hg2.2,List.append_assoc];rfl
theorem ZOwn.cell{w:World}{B g cap n j i:Nat}{ps:List Zp}{p q:Zp}{y:Value}(h:ZOwn w B (.slice (some ⟨g,0,none⟩) n cap) ps)(hn:n=ps.length)(hp:ps[j]? =some p)(hi:i<3)(hq2:q.2=p.2)(hqd:q.1.da=p.1.da)(hz:(zpV p).set i y=zpV q):ZOwn (w.setCell ⟨g,j*4+i,none⟩ y) B (.slice (some ⟨g,0,none⟩) n cap) (ps.set j q):=by
 have hj:=(List.getElem?_eq_some_iff.1 hp).1
 have e1:(zpVs ps).set (j*4+i) y=zpVs (ps.set j q):=by
  obtain⟨e2,e3⟩:ps=ps.take j++[p]++ps.drop (j+1)∧ps.set j q=ps.take j++[q]++ps.drop (j+1):=by
   have hj':=List.getElem?_eq_some_iff.1 hp;constructor
   ·conv=>lhs;rw [<- List.take_append_drop j ps,List.drop_eq_getElem_cons hj'.1,hj'.2]
    simp
   ·rw [List.set_eq_take_append_cons_drop,if_pos hj];simp
  have hl:(zpVs (ps.take j)).length=j*4:=by rw [zpVs_len,List.length_take];omega
  rw [e3]
  conv=>lhs;rw [e2]
  have hp4:(zpV p).length=4:=rfl;rw [zpVs_app,zpVs_app,zpVs_app,zpVs_app,List.append_assoc,List.append_assoc,List.set_append_right _ _ (by omega),hl,show j*4+i-j*4=i by omega];congr 1;have s1:zpVs [p]=zpV p:=by simp [zpVs]
  have s2:zpVs [q]=zpV q:=by simp [zpVs]
  rw [s1,s2,List.set_append_left _ _ (by omega),hz]
 have ho:=h.outer;rw [<- hn] at ho;have hst:=ho.stored (j*4+i) y;rw [e1] at hst;have far:∀ {v:Value} {n:Nat} {xs:List Value},w.ownsRow B 9 1 v n xs->(w.setCell ⟨g,j*4+i,none⟩ y).ownsRow B 9 1 v n xs:=fun hx=>own_far hx (own_kindsZ hx ho (by decide) g rfl)
 refine⟨by rw [List.length_set,<- hn];exact hst.1,fun m r hr=>?_,fun a b r s hr hs hne=>?_⟩
 ·rw [List.getElem?_set] at hr
  by_cases hm:j=m
  ·subst hm;rw [if_pos rfl,if_pos hj] at hr;obtain rfl:=Option.some.inj hr;have:=h.inner j p hp;rw [hq2,hqd];exact far this
  ·rw [if_neg hm] at hr;exact far (h.inner m r hr)
 ·have key:∀ (m:Nat) (r:Zp),(ps.set j q)[m]? =some r->∃ r',ps[m]? =some r'∧r'.2=r.2:=by
   intro m r hr;rw [List.getElem?_set] at hr
   by_cases hm:j=m
   ·subst hm;rw [if_pos rfl,if_pos hj] at hr;obtain rfl:=Option.some.inj hr;exact⟨p,hp,hq2.symm⟩
   ·rw [if_neg hm] at hr;exact⟨r,hr,rfl⟩
  obtain⟨r',h1,h2⟩:=key a r hr;obtain⟨s',h3,h4⟩:=key b s hs;rw [<- h2,<- h4];exact h.apart a b r' s' h1 h3 hne
theorem ZOwn.data{w w1:World}{B j:Nat}{v:Value}{ps:List Zp}{p:Zp}{da:List ByteArray}(h:ZOwn w B v ps)(hp:ps[j]? =some p)(hl:da.length=p.1.da.length)(ho:w1.ownsRow B 9 1 p.2 p.1.da.length (da.map Value.string))(hg:w.grownBy w1 p.2.ownBlock):ZOwn w1 B v (ps.set j ({p.1 with da:=da},p.2)):=by
 have hj:=(List.getElem?_eq_some_iff.1 hp).1;have hin:=h.inner j p hp
 have e1:zpVs (ps.set j ({p.1 with da:=da},p.2))=zpVs ps:=by
  have:∀ (l:List Zp) (i:Nat) (r:Zp),l[i]? =some r->∀ q,zpV q=zpV r->zpVs (l.set i q)=zpVs l:=by
   intro l
   induction l with
   |nil=>intro i r h;simp at h
   |cons x l ih=>
    intro i r h q hq
    cases i with
    |zero=>
     simp at h;subst h
     rw [List.set_cons_zero,zpVs_cons,zpVs_cons,hq]
    |succ i=>
     simp at h;rw [List.set_cons_succ,zpVs_cons,zpVs_cons,ih i r h q hq]
  exact this ps j p hp _ rfl
 have key:∀ (m:Nat) (r:Zp),(ps.set j ({p.1 with da:=da},p.2))[m]? =some r->(m=j∧r=({p.1 with da:=da},p.2))∨(m≠j∧ps[m]? =some r):=by
  intro m r hr;rw [List.getElem?_set] at hr
  by_cases hm:j=m
  ·subst hm;rw [if_pos rfl,if_pos hj] at hr;exact .inl ⟨rfl,(Option.some.inj hr).symm⟩
  ·rw [if_neg hm] at hr;exact .inr ⟨fun e=>hm e.symm,hr⟩
 refine⟨by rw [e1,List.length_set];exact own_besideZ h.outer hg (own_kindsZ h.outer hin (by decide)),fun m r hr=>?_,fun a b r s hr hs hne g e=>?_⟩
 ·rcases key m r hr with⟨_,rfl⟩|⟨hm,hr⟩
  ·simp only [hl];exact ho
  ·exact own_besideZ (h.inner m r hr) hg (fun g e=>fun e'=>h.apart m j r p hr hp hm g e' e)
 ·rcases key a r hr with⟨ha,rfl⟩|⟨ha,hr⟩<;>rcases key b s hs with⟨hb,rfl⟩|⟨hb,hs⟩
  ·omega
  ·exact h.apart a b p s (by rw [ha];exact hp) hs hne g e
  ·exact h.apart a b r p hr (by rw [hb];exact hp) hne g e
  ·exact h.apart a b r s hr hs hne g e
end Go.Proofs.YtcodajnebegdiaaGreat
namespace Go.Proofs.YtcodajnebegdiaaGreat
open Go.RowKit Go.Shelf
set_option linter.unusedVariables false
set_option maxRecDepth 100000 in
set_option maxHeartbeats 1600000 in
theorem l07Own_any(name:ByteArray)(v:Value)(ps:List Zp)(B:Nat)(w:World)(hz:ZOwn w B v ps)(hl:ps.length<=1048576):
 Calls Tryz.prog 47 #[v,.string name] w fun e w'=>e=.returned v∧ZOwn w' B v (ps.map (mapO name))∧Below B w w':=by
 obtain⟨va,vc,rfl⟩:=own_sl hz.outer;go_enter Tryz.func47,Tryz.ntmps47;go_wp2_with fail
 go_loopw [5] (fun i wr=>∃ (k:Nat),k<=ps.length∧i=.int .i64 k∧ZOwn wr B (.slice va ps.length vc) ((ps.map (mapO name)).take k++ps.drop k)∧Below B w wr) (fun i _=>ps.length-(intOf i).toNat)
 case atStart=>exact⟨0,Nat.zero_le _,rfl,by simpa using hz,Below.refl _ _⟩
 case round=>
  clear hz;obtain⟨k,hk,rfl,zk,bk⟩:=hrel
  by_cases hlt:k<ps.length
  ·obtain⟨p,hp⟩:∃ p,ps[k]? =some p:=⟨_,List.getElem?_eq_getElem hlt⟩;have hml:=mixO_len (name:=name) hk
   obtain⟨gv,hva⟩:∃ gv,va=some ⟨gv,0,none⟩:=by
    have ho:=zk.outer;rw [hml] at ho;obtain⟨m,hm⟩:∃ m,ps.length=m+1:=⟨ps.length-1,by omega⟩;rw [hm] at ho;obtain⟨gv,cap,e⟩:=ownsRow_succ ho;simp only [Value.slice.injEq] at e;exact⟨gv,e.1⟩
   subst hva;have n1:(0:Int)<=(k:Int):=by omega
   have n2:(k:Int)<(ps.length:Int):=by omega
   have hcell:wr.cell? ⟨gv,k*4,none⟩=some (.string p.1.own):=by
    have ho:=zk.outer;rw [hml] at ho;rw [ho.cellAt (k*4) (by omega)];exact(zpVs_at _ k 0 p (mixO_at hp) (by decide)).trans rfl
   have hfz:∀ i,wr.frozen? ⟨gv,i,none⟩=false:=by
    have ho:=zk.outer;rw [hml] at ho;exact ho.frozenAt
   have z2:=ZOwn.cell (i:=0) (y:=.string name) (q:=mapO name p) zk hml.symm (mixO_at hp) (by decide) rfl rfl rfl;rw [Nat.add_zero,mixO_set hp] at z2;have b2:Below B w (wr.setCell ⟨gv,k*4,none⟩ (.string name)):=bk.setCell (p:=⟨gv,k*4,none⟩) (zk.outer.lt gv rfl).1 _;clear zk bk hml hp;go_wp2;go_roundw
   case rel=>exact⟨k+1,hlt,by go_num,z2,b2⟩
   case measure=>simp [intOf];omega
  ·obtain rfl:k=ps.length:=by omega
   have i9:(ps.length:Int)<=(ps.length:Int):=by omega
   have e1:(ps.map (mapO name)).take ps.length++ps.drop ps.length=ps.map (mapO name):=by rw [List.drop_length,List.append_nil,<- List.length_map (f:=mapO name),List.take_length]
   rw [e1] at zk;clear e1;go_wp2;go_ret;exact⟨rfl,zk,bk⟩
set_option maxRecDepth 100000 in
theorem l07Star_any(x:ByteArray)(w:World)(hx:x.size<=1000000000):
 Calls Tryz.prog 45 #[.string x] w fun e w'=>e=.returned (.string (strN x))∧w'=w:=by
 have n1:¬9223372036854775807<2+x.size:=by omega
 have n2:¬9223372036854775807<(⟨#[1,42]⟩:ByteArray).size+x.size:=by have:(⟨#[1,42]⟩:ByteArray).size=2:=rfl;omega
 unfold strN;go_enter Tryz.func45,Tryz.ntmps45;go_wp2;go_ret;exact⟨rfl,rfl⟩
end Go.Proofs.YtcodajnebegdiaaGreat
namespace Go.Proofs.YtcodajnebegdiaaGreat
open Go.RowKit
set_option linter.unusedVariables false
set_option maxRecDepth 100000 in
set_option maxHeartbeats 400000 in
theorem specLabels_any(s:ByteArray)(w:World)(hs:s.size<=maxLen):
 Calls Tryz.prog 132 #[.string s] w fun e w'=>∃ v,e=.returned v∧w'.ownsRow w.heap.size 9 1 v ((Nm.split s).getD []).length (((Nm.split s).getD []).map Value.string)∧Below w.heap.size w w':=by
 go_enter Tryz.func132,Tryz.ntmps132;go_wp2_with (go_at_call 39;refine(l01Split_any s _ hs).mono ?_;rintro e w1 ⟨v,rfl,hown,hbel⟩)
 go_ret;exact⟨_,rfl,hown,hbel⟩
theorem cutZ_next{ps:List Zp}{o name:ByteArray}{j:Nat}{q:Zp}(hq:ps[j]? =some q):cutZ ((ps.take (j+1)).map (·.1)) o name=cutStep o name (cutZ ((ps.take j).map (·.1)) o name) q.1:=by
 rw [Nm.take_step hq,List.map_append,cutZ,cutZ,List.foldl_append];rfl
set_option maxRecDepth 100000 in
set_option maxHeartbeats 1600000 in
theorem l06Cut_any(o name:ByteArray)(v:Value)(ps:List Zp)(w:World)(h:ZRow w v ps)(hf:∀ p∈ps,p.1.own.size<=1048576)(hn:name.size<=maxLen)(ho:o.size<=maxLen):
 Calls Tryz.prog 88 #[.agg #[.string o,v],.string name] w fun e w'=>e=.returned (.string (cutZ (ps.map (·.1)) o name))∧Below w.heap.size w w':=by
 obtain⟨va,vc,rfl⟩:∃ va vc,v=.slice va ps.length vc:=by obtain⟨⟨_,a,c,e,_⟩,_⟩:=h;exact⟨a,c,e⟩
 have b0:=(Below.refl w.heap.size w).alloc (Nat.le_refl _) (.cells #[.string o,.slice va ps.length vc] 32);have k0:=blk_new w #[.string o,.slice va ps.length vc] 32;have HSm:=Nm.hide (fun(x:ByteArray) (hx:x.size<=1048576) W=>specSameName_any x o W (by unfold maxLen;omega) ho);have HUn:=Nm.hide (fun(x:ByteArray) (hx:x.size<=1048576) W=>specIsUnder_any name x W hn (by unfold maxLen;omega))
 have HLb:Hid (∀ (x:ByteArray) (hx:x.size<=1048576) W,Calls Tryz.prog 132 #[.string x] W fun e w'=>∃ a c,e=.returned (.slice a (labN x) c)∧Below W.heap.size W w'):=fun x hx W=>(specLabels_any x W (by unfold maxLen;omega)).mono (by
  rintro e w' ⟨u,rfl,hu,hb⟩;obtain⟨a,c,rfl⟩:=own_sl hu
  exact⟨a,c,rfl,hb⟩)
 have HLN:Hid (∀ (x:ByteArray),x.size<=1048576->labN x<=1000):=fun x hx=>by
  show labN x<=1000
  rw [labN]
  cases hq:Nm.split x with
  |none=>simp
  |some xs=>
   have h1:=Nm.split_size hq;have h2:=Nm.length_le_wsum xs;show xs.length<=1000
   omega
 have HZ:=Nm.hide (fun W (hW:Below w.heap.size w W)=>h.below hW);have HF:=Nm.hide hf;have HG:Hid (∀ W,Below w.heap.size w W->w.heap.size<=W.heap.size):=fun W hW=>hW.size
 have hps:ps.length<=maxLen:=by obtain⟨⟨_,a,c,e,h1,h2,_⟩,_⟩:=h;simp only [Value.slice.injEq] at e;omega
 unfold maxLen at hps;clear h hf;go_enter Tryz.func88,Tryz.ntmps88;go_wp2;generalize hgg:w.heap.size=g at*;have HGG:=Nm.hide hgg;clear hgg
 go_loopw [5,6] (fun bv i wr=>∃ (j:Nat) (bs:ByteArray),j<=ps.length∧i=.int .i64 j∧bv=.string bs∧bs.size<=1048576∧bs=cutZ ((ps.take j).map (·.1)) o name∧Below g w wr∧Blk wr g #[.string o,.slice va ps.length vc] 32) (fun _ i _=>ps.length-(intOf i).toNat)
 case atStart=>exact⟨0,⟨#[]⟩,Nat.zero_le _,rfl,rfl,by decide,rfl,b0,k0⟩
 case round=>
  clear b0 k0;obtain⟨j,bs,hj,rfl,rfl,hbs,hbe,hb,kz⟩:=hrel;have HBE:=Nm.hide hbe;have rz:=fun i=>blk_cell kz i
  clear hbe
  by_cases hlt:j<ps.length
  ·obtain⟨q,hq⟩:∃ q,ps[j]? =some q:=⟨_,List.getElem?_eq_getElem hlt⟩;obtain⟨⟨_,a9,c9,e9,_,_,hc9⟩,hd9⟩:=HZ.out _ hb;simp only [Value.slice.injEq] at e9;obtain⟨rfl,_,rfl⟩:=e9;obtain⟨b,off,rfl,hcell⟩:=hc9 (by omega);obtain⟨d0,d1,d2,d3⟩:=zp_cells hcell hq;have hfq:=HF.out q (List.mem_of_getElem? hq);obtain⟨ua,un,uc,hu⟩:∃ ua un uc,q.2=.slice ua un uc:=by obtain⟨a,c,e,_⟩:=hd9 q (List.mem_of_getElem? hq);exact⟨a,_,c,e⟩
   have n1:(0:Int)<=(j:Int):=by omega
   have n2:(j:Int)<(ps.length:Int):=by omega
   have HNX:Hid (cutZ ((ps.take (j+1)).map (·.1)) o name=cutStep o name bs q.1):=by show _=_;rw [cutZ_next hq,HBE.out]
   clear hc9 hd9 hcell hq;obtain⟨⟨x,ty,tt,ds⟩,u⟩:=q;simp only at d0 d1 d2 d3 hfq hu
   subst hu;have kS:=blk_new wr #[.string x,.int .i64 ty,.int .i64 tt,.slice ua un uc] 76;have bS:=(Below.refl wr.heap.size wr).alloc (Nat.le_refl _) (.cells #[.string x,.int .i64 ty,.int .i64 tt,.slice ua un uc] 76);have kz2:=blk_below kz bS;have bw2:=hb.trans (bS.mono (HG.out _ hb));have rS:=fun i=>blk_cell kS i
   have fS:=fun i=>blk_frozen kS i
   by_cases hty:ty=2
   ·have t1:(ty==2)=true:=by simp [hty]
    have HTY:=Nm.hide hty;have rz2:=fun i=>blk_cell kz2 i
    have HSX:=Nm.hide (HSm.out x hfq);clear hty
    cases hsb:sameS x o with
    |true=>
     have HN:Hid (bs=cutZ ((ps.take (j+1)).map (·.1)) o name):=by show _=_;rw [HNX.out,cutStep,candZ];simp [hsb]
     rw [hsb] at HSX;clear hsb HNX;go_wp2_with (go_at_call 90;refine(HSX.out _).mono ?_;rintro e w1 ⟨rfl,b1⟩)
     go_roundw
     case rel=>exact⟨j+1,bs,hlt,by go_num,rfl,hbs,HN.out,bw2.trans (b1.mono (HG.out _ bw2)),blk_below kz2 b1⟩
     case measure=>simp [intOf];omega
    |false=>
     rw [hsb] at HSX;have HSB:=Nm.hide hsb;clear hsb;go_wp2_with fail
     refine(HSX.out _).mono ?_;rintro e w1 ⟨rfl,b1⟩;have kS1:=blk_below kS b1;have kz1:=blk_below kz2 b1;have bw1:=bw2.trans (b1.mono (HG.out _ bw2));have rS1:=fun i=>blk_cell kS1 i
     have hun:=HUn.out x hfq w1;clear kS kz2 bw2 b1 rS fS rz rz2 d0 d1 d2 d3 HSX kz hb bS;generalize wr.heap.size=sp at*
     cases hub:isUnderS name x with
     |false=>
      have HN:Hid (bs=cutZ ((ps.take (j+1)).map (·.1)) o name):=by show _=_;rw [HNX.out,cutStep,candZ];simp [hub]
      rw [hub] at hun;clear hub HNX;go_wp2_with (go_at_call 86;refine hun.mono ?_;rintro e w2 ⟨rfl,b2⟩)
      go_roundw
      case rel=>exact⟨j+1,bs,hlt,by go_num,rfl,hbs,HN.out,bw1.trans (b2.mono (HG.out _ bw1)),blk_below kz1 b2⟩
      case measure=>simp [intOf];omega
     |true=>
      have HCA:Hid (candZ o name ⟨x,ty,tt,ds⟩=true):=by show _=_;rw [candZ];simp [HTY.out,HSB.out,hub]
      rw [hub] at hun;clear hub
      by_cases hbn:bs=⟨#[]⟩
      ·have HN:Hid (x=cutZ ((ps.take (j+1)).map (·.1)) o name):=by show _=_;rw [HNX.out,cutStep,HCA.out];simp [hbn]
       subst hbn;clear HNX HCA HBE;go_wp2_with fail
       refine hun.mono ?_;rintro e w2 ⟨rfl,b2⟩;have kS2:=blk_below kS1 b2;have rS2:=fun i=>blk_cell kS2 i
       have kz2:=blk_below kz1 b2;have bw2:=bw1.trans (b2.mono (HG.out _ bw1));clear kS1 rS1 kz1 bw1 b2 hun;go_wp2;go_roundw
       case rel=>exact⟨j+1,x,hlt,by go_num,rfl,hfq,HN.out,bw2,kz2⟩
       case measure=>simp [intOf];omega
      ·obtain⟨m1,m2⟩:=not_empty (s:=bs) (Nat.pos_of_ne_zero fun e=>hbn (by
        cases bs with|mk d=>
        congr
        exact Array.eq_empty_of_size_eq_zero e))
       have HL1:=HLN.out x hfq;have HL2:=HLN.out bs hbs;have HBN:=Nm.hide hbn;clear hbn;go_wp2_with fail
       refine hun.mono ?_;rintro e w2 ⟨rfl,b2⟩;have kS2:=blk_below kS1 b2;have rS2:=fun i=>blk_cell kS2 i
       have kz2:=blk_below kz1 b2;have bw2:=bw1.trans (b2.mono (HG.out _ bw1));clear kS1 rS1 kz1 bw1 b2 hun;have hl1:=HLb.out x hfq w2;go_wp2_with fail
       refine hl1.mono ?_;rintro e w3 ⟨xa,xc,rfl,b3⟩;have kS3:=blk_below kS2 b3;have rS3:=fun i=>blk_cell kS3 i
       have kz3:=blk_below kz2 b3;have bw3:=bw2.trans (b3.mono (HG.out _ bw2));have hl2:=HLb.out bs hbs w3;clear kS2 rS2 kz2 bw2 b3 hl1
       by_cases hcmp:labN x<labN bs
       ·have HN:Hid (x=cutZ ((ps.take (j+1)).map (·.1)) o name):=by show _=_;rw [HNX.out,cutStep,HCA.out];simp [hcmp]
        have i1:(labN x:Int)<(labN bs:Int):=by omega
        clear HNX HCA HBE hcmp;generalize labN x=LX at*;generalize labN bs=LB at*;go_wp2_with fail
        refine hl2.mono ?_;rintro e w4 ⟨ya,yc,rfl,b4⟩;have kS4:=blk_below kS3 b4;have rS4:=fun i=>blk_cell kS4 i
        have kz4:=blk_below kz3 b4;have bw4:=bw3.trans (b4.mono (HG.out _ bw3));clear kS3 rS3 kz3 bw3 b4 hl2;go_wp2;go_roundw
        case rel=>exact⟨j+1,x,hlt,by go_num,rfl,hfq,HN.out,bw4,kz4⟩
        case measure=>simp [intOf];omega
       ·have HN:Hid (bs=cutZ ((ps.take (j+1)).map (·.1)) o name):=by show _=_;rw [HNX.out,cutStep,HCA.out];simp [hcmp,HBN.out]
        have i1:(labN bs:Int)<=(labN x:Int):=by omega
        clear HNX HCA HBE hcmp;generalize labN x=LX at*;generalize labN bs=LB at*;go_wp2_with fail
        refine hl2.mono ?_;rintro e w4 ⟨ya,yc,rfl,b4⟩;have kz4:=blk_below kz3 b4;have bw4:=bw3.trans (b4.mono (HG.out _ bw3));clear kS3 rS3 kz3 bw3 b4 hl2;go_wp2;go_roundw
        case rel=>exact⟨j+1,bs,hlt,by go_num,rfl,hbs,HN.out,bw4,kz4⟩
        case measure=>simp [intOf];omega
   ·have t1:(ty==2)=false:=by simp [hty]
    have HN:Hid (bs=cutZ ((ps.take (j+1)).map (·.1)) o name):=by show _=_;rw [HNX.out,cutStep,candZ];simp [hty]
    clear hty;go_wp2;go_roundw
    case rel=>exact⟨j+1,bs,hlt,by go_num,rfl,hbs,HN.out,bw2,kz2⟩
    case measure=>simp [intOf];omega
  ·obtain rfl:j=ps.length:=by omega
   have i9:(ps.length:Int)<=(ps.length:Int):=by omega
   rw [List.take_length] at HBE;go_wp2;go_ret;rw [HGG.out];exact⟨by rw [<- HBE.out];rfl,hb⟩
end Go.Proofs.YtcodajnebegdiaaGreat
namespace Go.Proofs.YtcodajnebegdiaaGreat
open Go.RowKit
def intCells(l:List Int):List Value:=l.map fun x=>.int .i64 x
end Go.Proofs.YtcodajnebegdiaaGreat
namespace Go.Proofs.YtcodajnebegdiaaGreat
open Go.RowKit Go.Shelf
set_option linter.unusedVariables false
attribute [local go_sem] Oper.semAt_some
theorem infoI64K:(Tryz.prog.info? 2).map (fun i=>(i.zero,i.size,i.bytes))=some (some (.int .i64 0),1,8):=by kernel_rfl
end Go.Proofs.YtcodajnebegdiaaGreat
