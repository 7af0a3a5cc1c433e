import Derived.Test.YtcihkbojmbfmmaaGreatDoorJMath
import Derived.Test.YtcihkbojmbfmmaaGreatDoorBzD
import Derived.Test.YtcihkbojmbfmmaaGreatDoorJSSmall
import Derived.Test.YtcihkbojmbfmmaaGreatDoorRows
import Derived.WalkSpells
import Derived.WalkLawsBesides
import Derived.RegionTactic
import Derived.ChangeAlike
import Derived.BigRegion
import Derived.Deep.RegionHeld3
import Derived.Test.YtcihkbojmbfmmaaGreatDoorJZnT
import Derived.BigQuiet
import Derived.Deep.QuietTactic
import Derived.Deep.Slices
import Derived.Deep.Strs
import Derived.ChangeSame
namespace Go.Proofs.YtcihkbojmbfmmaaGreatDoor
open Go.RowKit
set_option linter.unusedVariables false
def eqSz(a b:Sz):Bool:=decide (a.own=b.own)&&decide (a.ty=b.ty)&&decide (a.tt=b.tt)&&decide (a.da=b.da)
theorem eqSz_iff{a b:Sz}:eqSz a b=true↔a=b:=by
 obtain⟨a1,a2,a3,a4⟩:=a;obtain⟨b1,b2,b3,b4⟩:=b;simp only [eqSz,Bool.and_eq_true,decide_eq_true_eq,Sz.mk.injEq];constructor
 ·rintro⟨⟨⟨h1,h2⟩,h3⟩,h4⟩;exact⟨h1,h2,h3,h4⟩
 ·rintro⟨h1,h2,h3,h4⟩;exact⟨⟨⟨h1,h2⟩,h3⟩,h4⟩
def eqZs:List Sz->List Sz->Bool
 |[],[]=>true
 |a::xs,b::ys=>eqSz a b&&eqZs xs ys
 |_,_=>false
theorem eqZs_iff:∀ {xs ys:List Sz},eqZs xs ys=true↔xs=ys
 |[],[]=>by simp [eqZs]
 |[],b::ys=>by simp [eqZs]
 |a::xs,[]=>by simp [eqZs]
 |a::xs,b::ys=>by
  rw [eqZs,Bool.and_eq_true,eqSz_iff,eqZs_iff];simp
theorem eqZs_all{xs ys:List Sz}(hl:xs.length=ys.length)(h:∀ (j:Nat) (a b:Sz),xs[j]? =some a->ys[j]? =some b->a=b):eqZs xs ys=true:=by
 rw [eqZs_iff];apply List.ext_getElem?;intro j
 by_cases hj:j<xs.length
 ·have h1:xs[j]? =some xs[j]:=List.getElem?_eq_getElem hj;have h2:ys[j]? =some ys[j]:=List.getElem?_eq_getElem (by omega);rw [h1,h2,h j _ _ h1 h2]
 ·rw [List.getElem?_eq_none (by omega),List.getElem?_eq_none (by omega)]
theorem eqZs_not{xs ys:List Sz}{j:Nat}{a b:Sz}(h1:xs[j]? =some a)(h2:ys[j]? =some b)(h:eqSz a b=false):eqZs xs ys=false:=by
 cases hq:eqZs xs ys with
 |false=>rfl
 |true=>
  rw [eqZs_iff] at hq;subst hq;rw [h1] at h2;obtain rfl:=Option.some.inj h2;rw [eqSz_iff.2 rfl] at h;cases h
theorem eqZs_len{xs ys:List Sz}(h:xs.length≠ys.length):eqZs xs ys=false:=by
 cases hq:eqZs xs ys with
 |false=>rfl
 |true=>rw [eqZs_iff] at hq;subst hq;exact absurd rfl h
def zOK(ps:List Zp)(o:ByteArray):Bool:=decide ((bldE (zoneRecs ps) o).1=0)&&eqZs (bldZ (zoneRecs ps)) (ps.map (·.1))
theorem bldE_nil(o:ByteArray):(bldE [] o).1≠0:=by
 rw [bldE];split
 ·decide
 ·rw [if_neg (by simp)];have h1:badOne o [] 0=none:=rfl;have h2:badI ([].map itemOf)= -1:=rfl;rw [h1];simp only
  rw [h2,if_neg (by decide)];have h3:rulesI (itsOf []) (Nm.foldS o)=(20,-1):=rfl;rw [h3];decide
theorem zOK_big{ps:List Zp}{o:ByteArray}(h:500<ps.length∨500<dsum ps):zOK ps o=false:=by
 rw [zOK,zoneRecs,if_pos h,decide_eq_false (bldE_nil o)];rfl
theorem zOK_recs{ps:List Zp}{o:ByteArray}(h:zOK ps o=true):(bldE (zoneRecs ps) o).1=0∧bldZ (zoneRecs ps)=ps.map (·.1):=by
 simp only [zOK,Bool.and_eq_true,decide_eq_true_eq] at h;exact⟨h.1,eqZs_iff.1 h.2⟩
theorem recs_fit{ps:List Zp}{N:Nat}(h:∀ p∈ps,p.1.own.size<=N∧∀ x∈p.1.da,x.size<=N):∀ r∈zoneRecs ps,r.own.size<=N∧r.da.size<=N:=by
 intro r hr;unfold zoneRecs at hr
 split at hr
 ·cases hr
 ·simp only [recsAll,recsOf,List.mem_flatMap,List.mem_map] at hr;obtain⟨p,hp,d,hd,rfl⟩:=hr;exact⟨(h p hp).1,(h p hp).2 d hd⟩
end Go.Proofs.YtcihkbojmbfmmaaGreatDoor
namespace Go.Proofs.YtcihkbojmbfmmaaGreatDoor
open Go.RowKit
def dgF:Nat->Nat->List UInt8
 |0,_=>[]
 |f+1,k=>if k=0 then [] else dgF f (k / 10)++[UInt8.ofNat (48+k % 10)]
def mkS(k:Nat):ByteArray:=if k=0 then⟨#[109,48]⟩ else⟨(109::dgF (k+1) k).toArray⟩
def MkAt(k j:Nat)(t:ByteArray):Prop:=∃ f,j<f∧dgF (k+1) k=dgF f j++t.data.toList
theorem mk_start(k:Nat):MkAt k k ⟨#[]⟩:=⟨k+1,by omega,by simp⟩
theorem mk_step{k j:Nat}{t:ByteArray}(h:MkAt k j t)(hj:0<j):MkAt k (j / 10) (⟨#[UInt8.ofNat (48+j % 10)]⟩++t):=by
 obtain⟨f,hf,e⟩:=h;obtain⟨g,rfl⟩:∃ g,f=g+1:=⟨f-1,by omega⟩;refine⟨g,by omega,?_⟩;rw [e,dgF,if_neg (by omega)];simp
theorem mk_end{k j:Nat}{t:ByteArray}(h:MkAt k j t)(hj:j=0)(hk:0<k):(⟨#[109]⟩:ByteArray)++t=mkS k:=by
 obtain⟨f,hf,e⟩:=h;obtain⟨g,rfl⟩:∃ g,f=g+1:=⟨f-1,by omega⟩;have z:dgF (g+1) j=[]:=by rw [dgF,if_pos hj]
 rw [z,List.nil_append] at e;rw [mkS,if_neg (by omega),e];apply ba_ext;simp
theorem mk_len{k j:Nat}{t:ByteArray}(h:MkAt k j t):t.size<=k+1:=by
 have hl:∀ f k,(dgF f k).length<=f:=by
  intro f
  induction f with
  |zero=>intro k;simp [dgF]
  |succ f ih=>
   intro k;rw [dgF];split
   ·simp
   ·have:=ih (k / 10);simp;omega
 obtain⟨f,hf,e⟩:=h;have:=congrArg List.length e;rw [List.length_append,size_list] at this;have:=hl (k+1) k;omega
set_option maxRecDepth 100000 in
set_option maxHeartbeats 800000 in
theorem markText_any(k:Nat)(w:World)(hk:k<=1000000000):
 Calls Tryz.prog 40 #[.int .i64 (k:Int)] w fun e w'=>e=.returned (.string (mkS k))∧Below w.heap.size w w':=by
 by_cases h0:k=0
 ·have HE:Hid (mkS k=⟨#[109,48]⟩):=by show _=_;rw [mkS,if_pos h0]
  have h0':(k:Int)<=0:=by omega
  clear h0;go_enter Tryz.func40,Tryz.ntmps40;go_wp2;go_ret;rw [HE.out];exact⟨rfl,Below.refl _ _⟩
 ·have hpos:0<k:=by omega
  have h0':(0:Int)<(k:Int):=by omega
  have hst:=mk_start k;go_enter Tryz.func40,Tryz.ntmps40;go_wp2
  go_loopw [0,3] (fun i v wr=>∃ (j:Nat) (t:ByteArray),i=.int .i64 (j:Int)∧j<=k∧v=.string t∧MkAt k j t∧Below w.heap.size w wr)
   (fun i _ _=>(intOf i).toNat)
  case atStart=>exact⟨k,_,rfl,Nat.le_refl _,rfl,hst,Below.refl _ _⟩
  case round=>
   obtain⟨j,t,rfl,hjk,rfl,hat,hbel⟩:=hrel;have hsz:=hbel.size;have hts:=mk_len hat;have hone:(ByteArray.mk #[109]).size=1:=rfl;clear hst
   by_cases hj:0<j
   ·have HN:=Nm.hide (mk_step hat hj);have hj':(0:Int)<(j:Int):=by omega
    have hcv:=fun n=>conv_one n wr
    have hn1:∀ c,(ByteArray.mk #[c]).size=1:=fun _=>rfl
    have hmod:(48+(j:Int) % 10) % 256=48+(j:Int) % 10:=by omega
    have htn:(48+(j:Int) % 10).toNat=48+j % 10:=by omega
    clear hat;go_wp2;go_roundw
    case rel=>exact⟨j / 10,_,by go_num,by omega,rfl,by simpa using HN.out,hbel.alloc hsz _⟩
    case measure=>simp [intOf];omega
   ·have HE:=Nm.hide (mk_end hat (by omega) hpos);have hj':(j:Int)<=0:=by omega
    clear hat;go_wp2;go_ret;rw [<- HE.out];exact⟨rfl,hbel⟩
end Go.Proofs.YtcihkbojmbfmmaaGreatDoor
namespace Go.Proofs.YtcihkbojmbfmmaaGreatDoor
open Go.RowKit
set_option linter.unusedVariables false
structure Mk (B C:Nat) (T:TypeId) (w w':World):Prop where
 os:w'.os=w.os
 tape:w'.tape=w.tape
 output:w'.output=w.output
 size:w.heap.size<=w'.heap.size
 block:∀ k,k<w.heap.size->(k<B∨C<=k)->w'.heap[k]? =w.heap[k]?
 shape:∀ (g:Nat) (cur:Array Value) (e:TypeId),w.heap[g]? =some (.cells cur e (0,0))->∃ cur':Array Value,w'.heap[g]? =some (.cells cur' e (0,0))∧cur'.size=cur.size
 other:∀ (g:Nat) (cur:Array Value) (e:TypeId),w.heap[g]? =some (.cells cur e (0,0))->e≠T->w'.heap[g]? =some (.cells cur e (0,0))
theorem Mk.refl(B C T:Nat)(w:World):Mk B C T w w:=⟨rfl,rfl,rfl,Nat.le_refl _,fun _ _ _=>rfl,fun _ cur _ h=>⟨cur,h,rfl⟩,fun _ _ _ h _=>h⟩
theorem heap_lt{w:World}{g:Nat}{x:Obj}(h:w.heap[g]? =some x):g<w.heap.size:=(Array.getElem?_eq_some_iff.1 h).1
theorem Mk.below{B C T:Nat}{w w1 w2:World}(h:Mk B C T w w1)(hb:Below w1.heap.size w1 w2):Mk B C T w w2:=by
 refine⟨hb.os.trans h.os,hb.tape.trans h.tape,hb.output.trans h.output,Nat.le_trans h.size hb.size,fun k hk hr=>(hb.block k (Nat.lt_of_lt_of_le hk h.size)).trans (h.block k hk hr),fun g cur e hg=>?_,fun g cur e hg hne=>?_⟩
 ·obtain⟨cur',h1,h2⟩:=h.shape g cur e hg;exact⟨cur',(hb.block g (heap_lt h1)).trans h1,h2⟩
 ·have h1:=h.other g cur e hg hne;exact(hb.block g (heap_lt h1)).trans h1
theorem Mk.set{B C T:Nat}{w w1:World}{g i:Nat}{cur:Array Value}(h:Mk B C T w w1)(hB:B<=g)(hC:g<C)(hg:w1.heap[g]? =some (.cells cur T (0,0)))(y:Value):Mk B C T w (w1.setCell ⟨g,i,none⟩ y):=by
 refine⟨h.os,h.tape,h.output,by simpa using h.size,fun k hk hr=>?_,fun g' cur' e hg'=>?_,fun g' cur' e hg' hne=>?_⟩
 ·rw [heap_setCell_other w1 ⟨g,i,none⟩ k _ (by simp;omega)];exact h.block k hk hr
 ·obtain⟨c1,h1,h2⟩:=h.shape g' cur' e hg'
  by_cases hgg:g'=g
  ·subst hgg;rw [h1] at hg;simp only [Option.some.injEq,Obj.cells.injEq] at hg;obtain⟨rfl,rfl,_⟩:=hg;exact⟨_,heap_setCell_same w1 g' i _ _ y h1,by simpa using h2⟩
  ·exact⟨c1,by rw [heap_setCell_other w1 ⟨g,i,none⟩ g' _ (by simpa using hgg)];exact h1,h2⟩
 ·have h1:=h.other g' cur' e hg' hne
  have hgg:g'≠g:=by
   intro e1;subst e1;rw [h1] at hg;simp only [Option.some.injEq,Obj.cells.injEq] at hg;exact hne hg.2.1
  rw [heap_setCell_other w1 ⟨g,i,none⟩ g' _ (by simpa using hgg)];exact h1
def WR(w:World)(B C:Nat)(e s:Nat)(v:Value)(n:Nat):Prop:=∃ a cap,v=.slice a n cap∧n<=cap∧(0<n->∃ (g:Nat) (cur:Array Value),a=some ⟨g,0,none⟩∧B<=g∧g<C∧w.heap[g]? =some (.cells cur e (0,0))∧n*s<=cur.size)
theorem WR.of_owns{w:World}{B e s n:Nat}{v:Value}{xs:List Value}(h:w.ownsRow B e s v n xs):WR w B w.heap.size e s v n:=by
 rcases h.2 with⟨rfl,rfl⟩|⟨g,cap,cur,rfl,hb,hg,hn,hm,hs,ht⟩
 ·exact⟨none,0,rfl,Nat.le_refl _,fun h=>by omega⟩
 ·exact⟨_,cap,rfl,hn,fun _=>⟨g,cur,rfl,hb,heap_lt hg,hg,by rw [hs];exact Nat.mul_le_mul_right _ hn⟩⟩
theorem WR.of_ownsC{w:World}{B C e s n:Nat}{v:Value}{xs:List Value}(h:w.ownsRow B e s v n xs)(hC:∀ g,v.ownBlock=some g->g<C):WR w B C e s v n:=by
 rcases h.2 with⟨rfl,rfl⟩|⟨g,cap,cur,rfl,hb,hg,hn,hm,hs,ht⟩
 ·exact⟨none,0,rfl,Nat.le_refl _,fun h=>by omega⟩
 ·exact⟨_,cap,rfl,hn,fun _=>⟨g,cur,rfl,hb,hC g rfl,hg,by rw [hs];exact Nat.mul_le_mul_right _ hn⟩⟩
theorem WR.shape{w w':World}{B C e s n:Nat}{v:Value}(h:WR w B C e s v n)(hs:∀ (g:Nat) (cur:Array Value) (e:TypeId),w.heap[g]? =some (.cells cur e (0,0))->∃ cur':Array Value,w'.heap[g]? =some (.cells cur' e (0,0))∧cur'.size=cur.size):WR w' B C e s v n:=by
 obtain⟨a,cap,rfl,hn,hr⟩:=h;refine⟨a,cap,rfl,hn,fun hp=>?_⟩;obtain⟨g,cur,rfl,hB,hC,hg,hz⟩:=hr hp;obtain⟨cur',h1,h2⟩:=hs g cur e hg;exact⟨g,cur',rfl,hB,hC,h1,by omega⟩
set_option maxRecDepth 100000 in
set_option maxHeartbeats 800000 in
theorem markStringS_mk(v:Value)(n B C k:Nat)(w:World)(h:WR w B C 9 1 v n)(hn:n<=10000000)(hk:k<=100000000):
 Calls Tryz.prog 41 #[v,.int .i64 (k:Int)] w fun e w'=>e=.returned (.int .i64 ((k+n:Nat):Int))∧Mk B C 9 w w':=by
 obtain⟨a,cap,rfl,hcap,hr⟩:=h;have hmt:=fun(j:Nat) (hj:j<=1000000000) W=>markText_any j W hj
 go_enter Tryz.func41,Tryz.ntmps41;go_wp2
 go_loopw [1,5] (fun t i wr=>∃ j:Nat,j<=n∧i=.int .i64 (j:Int)∧t=.int .i64 ((k:Int)+(j:Int))∧Mk B C 9 w wr) (fun _ i _=>n-(intOf i).toNat)
 case atStart=>exact⟨0,Nat.zero_le _,rfl,by simp,Mk.refl _ _ _ _⟩
 case round=>
  obtain⟨j,hj,rfl,rfl,hm⟩:=hrel
  by_cases hlt:j<n
  ·obtain⟨g,cur,rfl,hB,hC,hg,hz⟩:=hr (by omega);obtain⟨cur',hg',hz'⟩:=hm.shape g cur _ hg;have hone:=hmt (k+j) (by omega) wr;rw [show((k+j:Nat):Int)=(k:Int)+(j:Int) by omega] at hone;have i1:(0:Int)<=(j:Int):=by omega
   have i2:(j:Int)<(n:Int):=by omega
   have hcl:j<cur'.size:=by omega
   clear hmt hr;go_wp2_with (go_at_call 40;refine hone.mono ?_;rintro e w1 ⟨rfl,hb1⟩;have hg1:=(hb1.block g (heap_lt hg')).trans hg';have hc1:w1.cell? ⟨g,j,none⟩=some cur'[j]:=(cell_of_row _ _ _ _ _ _ hg1).trans (Array.getElem?_eq_getElem hcl);have hf1:=frozen_of_row w1 g j _ _ hg1)
   go_roundw
   case rel=>exact⟨j+1,by omega,by go_num,by congr 1<;>omega,(hm.below hb1).set hB hC hg1 _⟩
   case measure=>simp [intOf];omega
  ·have hjn:j=n:=by omega
   subst hjn;clear hr hmt;have i2:(j:Int)<=(j:Int):=by omega
   go_wp2;go_ret;exact⟨by rw [show((k+j:Nat):Int)=(k:Int)+(j:Int) by omega];rfl,hm⟩
structure Mj (B C:Nat) (w w':World):Prop where
 os:w'.os=w.os
 tape:w'.tape=w.tape
 output:w'.output=w.output
 size:w.heap.size<=w'.heap.size
 block:∀ k,k<w.heap.size->(k<B∨C<=k)->w'.heap[k]? =w.heap[k]?
 shape:∀ (g:Nat) (cur:Array Value) (e:TypeId),w.heap[g]? =some (.cells cur e (0,0))->∃ cur':Array Value,w'.heap[g]? =some (.cells cur' e (0,0))∧cur'.size=cur.size
theorem Mj.refl(B C:Nat)(w:World):Mj B C w w:=⟨rfl,rfl,rfl,Nat.le_refl _,fun _ _ _=>rfl,fun _ cur _ h=>⟨cur,h,rfl⟩⟩
theorem Mj.step{B C T:Nat}{w w1 w2:World}(h:Mj B C w w1)(h2:Mk B C T w1 w2):Mj B C w w2:=by
 refine⟨h2.os.trans h.os,h2.tape.trans h.tape,h2.output.trans h.output,Nat.le_trans h.size h2.size,fun k hk hr=>(h2.block k (Nat.lt_of_lt_of_le hk h.size) hr).trans (h.block k hk hr),fun g cur e hg=>?_⟩;obtain⟨c1,h3,h4⟩:=h.shape g cur e hg;obtain⟨c2,h5,h6⟩:=h2.shape g c1 e h3;exact⟨c2,h5,by omega⟩
theorem Mj.down{B C:Nat}{w w':World}(h:Mj B C w w'){D:Nat}(h1:D<=B)(h2:D<=w.heap.size):Below D w w':=⟨h.os,h.tape,h.output,h.size,fun k hk=>h.block k (by omega) (.inl (by omega))⟩
def zl:List Zp->Nat
 |[]=>0
 |x::xs=>x.1.da.length+3+zl xs
theorem zl_step:∀ (xs:List Zp) (k:Nat) (x:Zp),xs[k]? =some x->zl (xs.take (k+1))=zl (xs.take k)+(x.1.da.length+3):=by
 intro xs
 induction xs with
 |nil=>intro k x h;simp at h
 |cons y xs ih=>
  intro k x h
  cases k with
  |zero=>simp at h;subst h;simp [zl]
  |succ k=>
   simp at h;have:=ih k x h;simp only [List.take_succ_cons,zl];omega
theorem zl_take_le:∀ (xs:List Zp) (k:Nat),zl (xs.take k)<=zl xs:=by
 intro xs
 induction xs with
 |nil=>intro k;simp [zl]
 |cons y xs ih=>
  intro k
  cases k with
  |zero=>simp [zl]
  |succ k=>have:=ih k;simp only [List.take_succ_cons,zl];omega
theorem zl_len(xs:List Zp):xs.length<=zl xs:=by
 induction xs with
 |nil=>simp [zl]
 |cons y xs ih=>simp only [zl,List.length_cons];omega
def SV(w:World)(g:Nat)(qs:List Zp)(cur:Array Value):Prop:=Blk w g cur 58∧qs.length*4<=cur.size∧∀ (j:Nat) (q:Zp),qs[j]? =some q->cur[j*4+3]? =some q.2
theorem SV.set{w:World}{g i:Nat}{qs:List Zp}{cur:Array Value}(h:SV w g qs cur)(y:Value)(hc:i % 4≠3):SV (w.setCell ⟨g,i,none⟩ y) g qs (cur.setIfInBounds i y):=by
 refine⟨blk_set h.1 _ _,by simpa using h.2.1,fun j q hj=>?_⟩;rw [Array.getElem?_setIfInBounds_ne (by omega)];exact h.2.2 j q hj
theorem SV.below{w W:World}{g:Nat}{qs:List Zp}{cur:Array Value}(h:SV w g qs cur)(hb:Below w.heap.size w W):SV W g qs cur:=⟨blk_below h.1 hb,h.2⟩
theorem SV.mk{w W:World}{B C g:Nat}{qs:List Zp}{cur:Array Value}(h:SV w g qs cur)(hb:Mk B C 9 w W):SV W g qs cur:=⟨hb.other g cur _ h.1 (by decide),h.2⟩
set_option maxRecDepth 100000 in
set_option maxHeartbeats 1600000 in
theorem markSetS_mk(v:Value)(qs:List Zp)(B C k:Nat)(w:World)(h:OZ w B v qs)(hC:∀ g,v.ownBlock=some g->g<C)(hCD:∀ q∈qs,∀ g,q.2.ownBlock=some g->g<C)(hn:zl qs<=10000000)(hk:k<=10000000):
 Calls Tryz.prog 22 #[v,.int .i64 (k:Int)] w fun e w'=>e=.returned (.int .i64 ((k+zl qs:Nat):Int))∧Mj B C w w':=by
 have hW0:=WR.of_ownsC h.1 hC;have hql:=zl_len qs;have hD0:∀ q∈qs,WR w B C 9 1 q.2 q.1.da.length:=fun q hq=>WR.of_ownsC (h.2 q hq) (hCD q hq)
 have hSV0:0<qs.length->∃ g cap cur,v=.slice (some ⟨g,0,none⟩) qs.length cap∧B<=g∧g<C∧SV w g qs cur:=by
  intro hp
  rcases h.1.2 with⟨_,h0⟩|⟨g,cap,cur,rfl,hb,hg,hn,hm,hs,ht⟩
  ·omega
  ·refine⟨g,cap,cur,rfl,hb,hC g rfl,hg,by rw [hs];exact Nat.mul_le_mul_right _ hn,fun j q hj=>?_⟩;have hjl:j<qs.length:=(List.getElem?_eq_some_iff.1 hj).1;have e:=(zpVs_at qs j 3 q hj (by decide));rw [<- ht,List.getElem?_take_of_lt (by omega)] at e;have e2:cur.toList[j*4+3]? =some q.2:=e;simpa using e2
 have hmt:=fun(j:Nat) (hj:j<=1000000000) W=>markText_any j W hj
 have hms:=fun(q:Zp) W (hWr:WR W B C 9 1 q.2 q.1.da.length) (j:Nat) (hj:j<=100000000) (hl:q.1.da.length<=10000000)=>markStringS_mk q.2 q.1.da.length B C j W hWr hl hj
 obtain⟨a,cap,rfl⟩:=own_sl h.1;clear h hW0 hC hCD;go_enter Tryz.func22,Tryz.ntmps22;go_wp2
 go_loopw [1,5] (fun t i wr=>∃ j:Nat,j<=qs.length∧i=.int .i64 (j:Int)∧t=.int .i64 ((k:Int)+(zl (qs.take j):Int))∧Mj B C w wr∧Hid (∀ g,a=some ⟨g,0,none⟩->0<qs.length->∃ cur,SV wr g qs cur)) (fun _ i _=>qs.length-(intOf i).toNat)
 case atStart=>
  refine⟨0,Nat.zero_le _,rfl,by simp [zl],Mj.refl _ _ _,?_⟩;intro g hg hp;obtain⟨g',cap',cur,e1,_,_,hsv⟩:=hSV0 hp;subst hg;simp only [Value.slice.injEq,Option.some.injEq,Addr.mk.injEq] at e1;obtain⟨⟨rfl,_⟩,_⟩:=e1;exact⟨cur,hsv⟩
 case round=>
  obtain⟨j,hj,rfl,rfl,hm,HV⟩:=hrel
  by_cases hlt:j<qs.length
  ·obtain⟨q,hq⟩:∃ q,qs[j]? =some q:=⟨_,List.getElem?_eq_getElem hlt⟩;obtain⟨g,cap',cur0,e1,hBg,hgC,_⟩:=hSV0 (by omega);simp only [Value.slice.injEq] at e1;obtain⟨rfl,_,rfl⟩:=e1;obtain⟨cur,hsv⟩:=HV.out g rfl (by omega);have hst:=zl_step qs j q hq;have hle:=zl_take_le qs (j+1);have hone:=hmt (k+zl (qs.take j)) (by omega) wr;rw [show((k+zl (qs.take j):Nat):Int)=(k:Int)+(zl (qs.take j):Int) by omega] at hone;have hms1:=fun W hWr=>hms q W hWr (k+zl (qs.take j)+3) (by omega) (by omega)
   rw [show((k+zl (qs.take j)+3:Nat):Int)=(k:Int)+(zl (qs.take j):Int)+1+1+1 by omega] at hms1;have hwr:=(hD0 q (List.mem_of_getElem? hq)).shape hm.shape;have hdv:=hsv.2.2 j q hq;have i1:(0:Int)<=(j:Int):=by omega
   have i2:(j:Int)<(qs.length:Int):=by omega
   have hfin:((k+zl (qs.take j)+3+q.1.da.length:Nat):Int)=(k:Int)+(zl (qs.take (j+1)):Int):=by omega
   have hcs:j*4+3<cur.size:=by have:=hsv.2.1;omega
   obtain⟨qa,qc,hqv⟩:∃ qa qc,q.2=.slice qa q.1.da.length qc:=by
    obtain⟨qa,qc,e,_⟩:=hwr;exact⟨qa,qc,e⟩
   clear hmt hms hSV0 HV hq hD0;generalize zl (qs.take j)=z0 at*;generalize hz1:zl (qs.take (j+1))=z1 at*;obtain⟨⟨o,ty,tt,da⟩,dv⟩:=q;simp only at hqv hms1 hwr hdv hfin
   subst hqv;go_wp2_with (first|(go_at_call 40;refine hone.mono ?_;rintro e w1 ⟨rfl,hb1⟩;have hs1:=hsv.below hb1;have f1:=blk_frozen hs1.1;have c0:w1.cell? ⟨g,j*4,none⟩=some cur[j*4]:=(blk_cell hs1.1 _).trans (Array.getElem?_eq_getElem (by omega));have c1:w1.cell? ⟨g,j*4+1,none⟩=some cur[j*4+1]:=(blk_cell hs1.1 _).trans (Array.getElem?_eq_getElem (by omega));have c2:w1.cell? ⟨g,j*4+2,none⟩=some cur[j*4+2]:=(blk_cell hs1.1 _).trans (Array.getElem?_eq_getElem (by omega));have c3:w1.cell? ⟨g,j*4+3,none⟩=some (.slice qa da.length qc):=(blk_cell hs1.1 _).trans hdv)|(go_at_call 41;refine(hms1 _ (hwr.shape (((((Mk.refl B C 58 wr).below hb1).set hBg hgC hs1.1 _).set hBg hgC (hs1.set _ (by omega)).1 _).set hBg hgC ((hs1.set _ (by omega)).set _ (by omega)).1 _).shape)).mono ?_;rintro e w5 ⟨rfl,hk5⟩))
   have hs5:=(((hs1.set (.string (mkS (k+z0))) (i:=j*4) (by omega)).set (.int .i64 ((k:Int)+(z0:Int)+1)) (i:=j*4+1) (by omega)).set (.int .i64 ((k:Int)+(z0:Int)+1+1)) (i:=j*4+2) (by omega)).mk hk5;have hm5:=(hm.step (((((Mk.refl B C 58 wr).below hb1).set hBg hgC hs1.1 _).set hBg hgC (hs1.set _ (by omega)).1 _).set hBg hgC ((hs1.set _ (by omega)).set _ (by omega)).1 _)).step hk5;go_roundw
   case rel=>
    refine⟨j+1,by omega,by go_num,?_,hm5,?_⟩
    ·rw [hz1];congr 1<;>omega
    ·intro g' hg' hp;cases hg'
     exact⟨_,hs5⟩
   case measure=>simp [intOf];omega
  ·have hjn:j=qs.length:=by omega
   subst hjn;clear hmt hms hSV0 HV hD0;have i2:(qs.length:Int)<=(qs.length:Int):=by omega
   rw [List.take_length];go_wp2;go_ret;exact⟨by rw [show((k+zl qs:Nat):Int)=(k:Int)+(zl qs:Int) by omega];rfl,hm⟩
set_option maxRecDepth 100000 in
set_option maxHeartbeats 800000 in
theorem markZone_mk(o:ByteArray)(v:Value)(qs:List Zp)(B C k:Nat)(w:World)(h:OZ w B v qs)(hC:∀ g,v.ownBlock=some g->g<C)(hCD:∀ q∈qs,∀ g,q.2.ownBlock=some g->g<C)(hn:zl qs<=10000000)(hk:k<=10000000):
 Calls Tryz.prog 10 #[.agg #[.string o,v],.int .i64 (k:Int)] w fun e w'=>e=.returned (.int .i64 ((k+zl qs:Nat):Int))∧Mj B C w w':=by
 have hB:=(Below.refl w.heap.size w).alloc (Nat.le_refl _) (.cells #[.string o,v] 31);have hone:=markSetS_mk v qs B C k _ (h.below hB) hC hCD hn hk;obtain⟨a,cap,rfl⟩:=own_sl h.1;have hsz:(w.alloc (.cells #[.string o,.slice a qs.length cap] 31)).heap.size=w.heap.size+1:=by simp
 clear h hC hCD;go_enter Tryz.func10,Tryz.ntmps10;go_wp2_with (go_at_call 22;refine hone.mono ?_;rintro e w1 ⟨rfl,hm⟩)
 go_ret;refine⟨rfl,hm.os,hm.tape,hm.output,by have:=hm.size;omega,fun k hk hr=>(hm.block k (by omega) hr).trans (hB.block k hk),fun g cur e hg=>?_⟩;exact hm.shape g cur e ((hB.block g (heap_lt hg)).trans hg)
theorem own_mj{w w':World}{B C B' e s n:Nat}{v:Value}{xs:List Value}(h:w.ownsRow B' e s v n xs)(hr:∀ g,v.ownBlock=some g->g<B∨C<=g)(hm:Mj B C w w'):w'.ownsRow B' e s v n xs:=by
 refine⟨h.1,?_⟩
 rcases h.2 with h0|⟨g,cap,cur,rfl,hb,hg,r⟩
 ·exact .inl h0
 ·exact .inr ⟨g,cap,cur,rfl,hb,(hm.block g (heap_lt hg) (hr g rfl)).trans hg,r⟩
theorem OZ.lt{w:World}{B:Nat}{v:Value}{qs:List Zp}(h:OZ w B v qs):(∀ g,v.ownBlock=some g->g<w.heap.size)∧∀ q∈qs,∀ g,q.2.ownBlock=some g->g<w.heap.size:=
 ⟨fun g hg=>(h.1.lt g hg).2,fun q hq g hg=>((h.2 q hq).lt g hg).2⟩
theorem zsum_same{ps qs:List Zp}(h:qs.map (·.1)=ps.map (·.1)):zsum qs=zsum ps:=by
 have e:∀ xs:List Zp,zsum xs=((xs.map (·.1)).map zs1).sum:=by
  intro xs
  induction xs with
  |nil=>rfl
  |cons y xs ih=>simp only [zsum,List.map_cons,List.sum_cons,ih]
 rw [e,e,h]
theorem zl_le(ps:List Zp):zl ps<=zsum ps+3*ps.length:=by
 induction ps with
 |nil=>simp [zl]
 |cons y ps ih=>simp only [zl,zsum,zs1,List.length_cons];omega
theorem cz_ssum{ls:List ByteArray}{x:ByteArray}(h:x∈ls):x.size<=ssum ls:=by
 induction ls with
 |nil=>simp at h
 |cons y ls ih=>
  rcases List.mem_cons.1 h with rfl|h
  ·simp only [ssum];omega
  ·have:=ih h;simp only [ssum];omega
theorem cz_fits{ps:List Zp}(h:zsum ps<=1048576):∀ p∈ps,p.1.own.size<=1048576∧p.1.da.length<=1048576∧∀ x∈p.1.da,x.size<=1048576:=by
 intro p hp;have h1:=zsum_mem ps p hp;unfold zs1 at h1;exact⟨by omega,by omega,fun x hx=>by have:=cz_ssum hx;omega⟩
theorem cz_mem{ps qs:List Zp}(h:qs.map (·.1)=ps.map (·.1)){P:Sz->Prop}(hp:∀ p∈ps,P p.1):∀ q∈qs,P q.1:=by
 intro q hq;have:q.1∈qs.map (·.1):=List.mem_map.2 ⟨q,hq,rfl⟩;rw [h] at this;obtain⟨p,hp1,hp2⟩:=List.mem_map.1 this;rw [<- hp2];exact hp p hp1
theorem zOK_same{ps qs:List Zp}(h:qs.map (·.1)=ps.map (·.1))(o:ByteArray):zOK qs o=zOK ps o:=by
 rw [zOK,zOK,zoneRecs_same h,h]
set_option maxRecDepth 100000 in
set_option maxHeartbeats 800000 in
theorem szSet_any(s:Sz)(dv:Value)(L:Int)(w:World)(h:Nm.SRow w dv s.da)(h0:0<=L)(h1:L<=1048576)(ho:s.own.size<=maxLen)(hd:∀ x∈s.da,x.size<=maxLen):
 Calls Tryz.prog 23 #[.agg #[.string s.own,.int .i64 s.ty,.int .i64 s.tt,dv],.int .i64 L] w fun e w'=>e=.returned (.int .i64 (szZ1 s L))∧Below w.heap.size w w':=by
 unfold maxLen at ho;have hB:=(Below.refl w.heap.size w).alloc (Nat.le_refl _) (.cells #[.string s.own,.int .i64 s.ty,.int .i64 s.tt,dv] 50);have hcall:=fun K h0 h1=>szStringS_any dv s.da K _ (h.below hB) hd h0 h1
 obtain⟨a,cap,rfl,_⟩:=h;obtain⟨o,ty,tt,da⟩:=s;simp only at*
 by_cases hm:L-o.size<0
 ·have HS:Hid (szZ1 ⟨o,ty,tt,da⟩ L= -1):=if_neg (by simp only [zs1];omega);clear hcall hd;go_enter Tryz.func23,Tryz.ntmps23;go_wp2;go_ret;rw [HS.out];exact⟨rfl,hB⟩
 ·have hm':0<=L-o.size:=by omega
  have hone:=hcall (L-o.size) hm' (by omega);clear hcall hd
  by_cases hn:(da.length:Int)+(ssum da:Int)<=L-o.size
  ·have HS:Hid (szZ1 ⟨o,ty,tt,da⟩ L=L-o.size-da.length-ssum da):=by
    show _=_
    rw [szZ1,if_pos (by simp only [zs1];omega)];simp only [zs1];omega
   have e1:szS da (L-o.size)=L-o.size-da.length-ssum da:=if_pos hn;have hnn:0<=L-o.size-da.length-ssum da:=by omega
   rw [e1] at hone;clear e1 hn;generalize (L-(o.size:Int)-(da.length:Int)-(ssum da:Int))=L2 at*;go_enter Tryz.func23,Tryz.ntmps23;go_wp2_with (go_at_call 42;refine hone.mono ?_;rintro e w1 ⟨rfl,rfl⟩)
   go_ret;rw [HS.out];exact⟨rfl,hB⟩
  ·have HS:Hid (szZ1 ⟨o,ty,tt,da⟩ L= -1):=if_neg (by simp only [zs1];omega);have e1:szS da (L-o.size)= -1:=if_neg hn;rw [e1] at hone;clear e1 hn;go_enter Tryz.func23,Tryz.ntmps23;go_wp2_with (go_at_call 42;refine hone.mono ?_;rintro e w1 ⟨rfl,rfl⟩)
   go_ret;rw [HS.out];exact⟨rfl,hB⟩
set_option maxRecDepth 100000 in
set_option maxHeartbeats 1600000 in
theorem szSetS_any(v:Value)(ps:List Zp)(L:Int)(w:World)(h:ZRow w v ps)(hx:ZFit ps)(h0:0<=L)(h1:L<=1048576):
 Calls Tryz.prog 13 #[v,.int .i64 L] w fun e w'=>e=.returned (.int .i64 (szZS ps L))∧Below w.heap.size w w':=by
 obtain⟨⟨_,a,cap,rfl,hcap,hmx,hc⟩,hd⟩:=h;unfold maxLen at hmx
 by_cases hm:L<ps.length
 ·have HS:Hid (szZS ps L= -1):=if_neg (by omega);have hm':L-(ps.length:Int)<0:=by omega
  clear hx hc hd;go_enter Tryz.func13,Tryz.ntmps13;go_wp2;go_ret;rw [HS.out];exact⟨rfl,Below.refl _ _⟩
 ·have hl:(ps.length:Int)<=1048576:=by omega
  have hm':(0:Int)<=L-(ps.length:Int):=by omega
  have hsz:=fun(p:Zp) (hp:p∈ps) (K:Int) (W:World) (hW:Below w.heap.size w W) (h0:0<=K) (h1:K<=1048576)=>szSet_any p.1 p.2 K W ((hd p hp).below hW) h0 h1 (hx p hp).1 (hx p hp).2
  clear hd;go_enter Tryz.func13,Tryz.ntmps13;go_wp2
  go_loopw [1,5] (fun t i wr=>∃ k:Nat,k<=ps.length∧i=.int .i64 k∧t=.int .i64 (L-ps.length-zsum (ps.take k))∧Hid ((ps.length:Int)+zsum (ps.take k)<=L)∧Below w.heap.size w wr) (fun _ i _=>ps.length-(intOf i).toNat)
  case atStart=>exact⟨0,Nat.zero_le _,rfl,by simp [zsum],by show _<=L;simp [zsum];omega,Below.refl _ _⟩
  case round=>
   obtain⟨k,hk,rfl,rfl,hle,hbel⟩:=hrel
   by_cases hlt:k<ps.length
   ·obtain⟨x,hxk⟩:∃ x,ps[k]? =some x:=⟨_,List.getElem?_eq_getElem hlt⟩;obtain⟨b,off,rfl,hcell⟩:=hc (by omega);obtain⟨c0,c1,c2,c3⟩:=zp_cells hcell hxk;have put:∀ {O:Nat} {z:Value},w.cell? ⟨b,O,none⟩=some z->wr.cell? ⟨b,O,none⟩=some z:=fun h=>(hbel.cell (World.block_lt_of_cell? w _ h)).trans h
    replace c0:=put c0
    replace c1:=put c1
    replace c2:=put c2
    replace c3:=put c3
    have HS:Hid (zsum (ps.take (k+1))=zsum (ps.take k)+zs1 x.1):=zsum_step ps k x hxk;have hs1:Hid (zsum (ps.take (k+1))<=zsum ps):=zsum_take_le ps (k+1);have hone:=hsz x (List.mem_of_getElem? hxk) (L-ps.length-zsum (ps.take k)) wr hbel (by have:=hle.out;omega) (by omega);have i1:(0:Int)<=(k:Int):=by omega
    have i2:(k:Int)<(ps.length:Int):=by omega
    by_cases hb:(zs1 x.1:Int)<=L-ps.length-zsum (ps.take k)
    ·have e1:szZ1 x.1 (L-ps.length-zsum (ps.take k))=L-ps.length-zsum (ps.take (k+1)):=by
      have:=HS.out;rw [szZ1,if_pos hb];omega
     have hnn:0<=L-(ps.length:Int)-zsum (ps.take (k+1)):=by have:=HS.out;omega
     have hle2:Hid ((ps.length:Int)+zsum (ps.take (k+1))<=L):=by show _<=L;omega
     rw [e1] at hone;clear hxk hcell hc hx hsz HS hb e1 hs1;generalize hL2:(L-(ps.length:Int)-(zsum (ps.take (k+1)):Int))=L2 at*;generalize (L-(ps.length:Int)-(zsum (ps.take k):Int))=L1 at*;go_wp2_with (go_at_call 23;refine hone.mono ?_;rintro e w1 ⟨rfl,hb1⟩)
     go_roundw
     case rel=>exact⟨k+1,by omega,by go_num,by rw [hL2],hle2,Nm.below_two hbel hb1⟩
     case measure=>simp [intOf];omega
    ·have HZ:Hid (szZS ps L= -1):=if_neg (by have:=HS.out;have:=hs1.out;omega);have e1:szZ1 x.1 (L-ps.length-zsum (ps.take k))= -1:=if_neg hb;rw [e1] at hone;clear hxk hcell hc hx hsz HS hb e1 hs1;generalize (L-(ps.length:Int)-(zsum (ps.take k):Int))=L1 at*;go_wp2_with (go_at_call 23;refine hone.mono ?_;rintro e w1 ⟨rfl,hb1⟩)
     go_ret;rw [HZ.out];exact⟨rfl,Nm.below_two hbel hb1⟩
   ·have hkl:k=ps.length:=by omega
    have HZ:Hid (szZS ps L=L-ps.length-zsum (ps.take k)):=by
     have:=hle.out;rw [hkl,List.take_length] at this ⊢;exact if_pos this
    have i2:(ps.length:Int)<=(k:Int):=by omega
    clear hc hx hsz;generalize (L-(ps.length:Int)-(zsum (ps.take k):Int))=L1 at*;go_wp2;go_ret;rw [HZ.out];exact⟨rfl,hbel⟩
set_option maxRecDepth 100000 in
set_option maxHeartbeats 1600000 in
theorem szZone_any(o:ByteArray)(v:Value)(ps:List Zp)(L:Int)(w:World)(h:ZRow w v ps)(hx:ZFit ps)(ho:o.size<=maxLen)(h0:0<=L)(h1:L<=1048576):
 Calls Tryz.prog 4 #[.agg #[.string o,v],.int .i64 L] w fun e w'=>e=.returned (.int .i64 (szZ o ps L))∧Below w.heap.size w w':=by
 unfold maxLen at ho;have hB:=(Below.refl w.heap.size w).alloc (Nat.le_refl _) (.cells #[.string o,v] 24);have hcall:=fun K h0 h1=>szSetS_any v ps K _ (h.below hB) hx h0 h1
 obtain⟨⟨_,a,cap,rfl,_⟩,_⟩:=h;clear hx
 by_cases hm:L-o.size<0
 ·have HS:Hid (szZ o ps L= -1):=if_neg (by omega);clear hcall;go_enter Tryz.func4,Tryz.ntmps4;go_wp2;go_ret;rw [HS.out];exact⟨rfl,hB⟩
 ·have hm':0<=L-o.size:=by omega
  have hone:=hcall (L-o.size) hm' (by omega);clear hcall
  by_cases hn:(ps.length:Int)+(zsum ps:Int)<=L-o.size
  ·have HS:Hid (szZ o ps L=L-o.size-ps.length-zsum ps):=if_pos (by omega);have e1:szZS ps (L-o.size)=L-o.size-ps.length-zsum ps:=if_pos hn;have hnn:0<=L-o.size-ps.length-zsum ps:=by omega
   rw [e1] at hone;clear e1 hn;generalize (L-(o.size:Int)-(ps.length:Int)-(zsum ps:Int))=L2 at*;go_enter Tryz.func4,Tryz.ntmps4;go_wp2_with (go_at_call 13;refine hone.mono ?_;rintro e w1 ⟨rfl,hb1⟩)
   go_ret;rw [HS.out];exact⟨rfl,Nm.below_two hB hb1⟩
  ·have HS:Hid (szZ o ps L= -1):=if_neg (by omega);have e1:szZS ps (L-o.size)= -1:=if_neg hn;rw [e1] at hone;clear e1 hn;go_enter Tryz.func4,Tryz.ntmps4;go_wp2_with (go_at_call 13;refine hone.mono ?_;rintro e w1 ⟨rfl,hb1⟩)
   go_ret;rw [HS.out];exact⟨rfl,Nm.below_two hB hb1⟩
end Go.Proofs.YtcihkbojmbfmmaaGreatDoor
namespace Go.Proofs.YtcihkbojmbfmmaaGreatDoor
open Go.RowKit
set_option maxRecDepth 100000 in
set_option maxHeartbeats 800000 in
theorem eqStringS_any(v u:Value)(ls:List ByteArray)(w:World)(h:Nm.SRow w v ls)(h':Nm.SRow w u ls)(hlen:ls.length<=1000000000):
 Calls Tryz.prog 69 #[v,u] w fun e w'=>e=.returned (.bool true)∧Below w.heap.size w w':=by
 obtain⟨a,cap,rfl,hcap,hmx,hnl,hc⟩:=h;obtain⟨a',cap',rfl,hcap',hmx',hnl',hc'⟩:=h';have hne:((ls.length:Int) != (ls.length:Int))=false:=by simp
 clear hnl hnl';go_enter Tryz.func69,Tryz.ntmps69;go_wp2
 go_loopw [5] (fun i wr=>∃ k:Nat,k<=ls.length∧i=.int .i64 k∧Below w.heap.size w wr) (fun i _=>ls.length-(intOf i).toNat)
 case atStart=>exact⟨0,Nat.zero_le _,rfl,Below.refl _ _⟩
 case round=>
  obtain⟨k,hk,rfl,hbel⟩:=hrel
  by_cases hlt:k<ls.length
  ·obtain⟨x,hx⟩:∃ x,ls[k]? =some x:=⟨_,List.getElem?_eq_getElem hlt⟩;have hls:ls≠[]:=by intro h;rw [h] at hlt;simp at hlt
   obtain⟨b,off,rfl,hcell⟩:=hc hls;obtain⟨b',off',rfl,hcell'⟩:=hc' hls;have hcx:wr.cell? ⟨b,off+k,none⟩=some (.string x):=(hbel.cell (World.block_lt_of_cell? w _ (hcell k x hx))).trans (hcell k x hx);have hcx':wr.cell? ⟨b',off'+k,none⟩=some (.string x):=(hbel.cell (World.block_lt_of_cell? w _ (hcell' k x hx))).trans (hcell' k x hx);have hxx:(x.toList==x.toList)=true:=by simp
   clear hx hcell hcell' hc hc' hls;go_wp2;go_region
   all_goals
    go_wp2;go_roundw
    case rel=>exact⟨k+1,by omega,by go_num,hbel.drew⟩
    case measure=>simp [intOf];omega
  ·go_wp2;go_ret;exact⟨rfl,hbel⟩
end Go.Proofs.YtcihkbojmbfmmaaGreatDoor
namespace Go.Proofs.YtcihkbojmbfmmaaGreatDoor
open Go.RowKit
set_option linter.unusedVariables false
theorem strz_ne(s:ByteArray):(s.toList != s.toList)=false∧(s.toList==s.toList)=true:=by simp
set_option maxRecDepth 100000 in
set_option maxHeartbeats 800000 in
theorem eqSet_any(s:Sz)(dv du:Value)(w:World)(h:Nm.SRow w dv s.da)(h':Nm.SRow w du s.da)(hl:s.da.length<=1000000000):
 Calls Tryz.prog 39 #[.agg #[.string s.own,.int .i64 s.ty,.int .i64 s.tt,dv],.agg #[.string s.own,.int .i64 s.ty,.int .i64 s.tt,du]] w fun e w'=>e=.returned (.bool true)∧Below w.heap.size w w':=by
 obtain⟨o,ty,tt,da⟩:=s;simp only at*
 have e1:(ty != ty)=false:=by simp
 have e2:(tt != tt)=false:=by simp
 obtain⟨e3,e4⟩:=strz_ne o;have hB:=((Below.refl w.heap.size w).alloc (Nat.le_refl _) (.cells #[.string o,.int .i64 ty,.int .i64 tt,dv] 58)).alloc (by simp) (.cells #[.string o,.int .i64 ty,.int .i64 tt,du] 58);have hone:=eqStringS_any dv du da _ (h.below hB) (h'.below hB) hl;obtain⟨a,cap,rfl,_⟩:=h;obtain⟨a',cap',rfl,_⟩:=h';go_enter Tryz.func39,Tryz.ntmps39;go_wp2_with (go_at_call 69;refine hone.mono ?_;rintro e w1 ⟨rfl,hb1⟩)
 go_ret;exact⟨rfl,Nm.below_two hB hb1⟩
set_option maxRecDepth 100000 in
set_option maxHeartbeats 1600000 in
theorem eqSetS_any(v u:Value)(qs rs:List Zp)(w:World)(h:ZRow w v qs)(h':ZRow w u rs)(he:qs.map (·.1)=rs.map (·.1))(hd:∀ q∈qs,q.1.da.length<=1000000000):
 Calls Tryz.prog 21 #[v,u] w fun e w'=>e=.returned (.bool true)∧Below w.heap.size w w':=by
 have hlen:rs.length=qs.length:=by have:=congrArg List.length he;simpa using this.symm
 obtain⟨⟨_,a,cap,rfl,hcap,hmx,hc⟩,hq⟩:=h;obtain⟨⟨_,a',cap',rfl,hcap',hmx',hc'⟩,hr⟩:=h';unfold maxLen at hmx hmx';rw [hlen] at hcap' hc' ⊢;have hne:((qs.length:Int) != (qs.length:Int))=false:=by simp
 go_enter Tryz.func21,Tryz.ntmps21;go_wp2
 go_loopw [5] (fun i wr=>∃ k:Nat,k<=qs.length∧i=.int .i64 k∧Below w.heap.size w wr) (fun i _=>qs.length-(intOf i).toNat)
 case atStart=>exact⟨0,Nat.zero_le _,rfl,Below.refl _ _⟩
 case round=>
  obtain⟨k,hk,rfl,hbel⟩:=hrel
  by_cases hlt:k<qs.length
  ·obtain⟨x,hx⟩:∃ x,qs[k]? =some x:=⟨_,List.getElem?_eq_getElem hlt⟩;obtain⟨y,hy⟩:∃ y,rs[k]? =some y:=⟨_,List.getElem?_eq_getElem (by omega)⟩
   have hxy:y.1=x.1:=by
    have:=congrArg (fun l=>l[k]?) he;simp [hx,hy] at this
    exact this.symm
   obtain⟨b,off,rfl,hcell⟩:=hc (by omega);obtain⟨b',off',rfl,hcell'⟩:=hc' (by omega);have R1:=zp_cells hcell hx;have R2:=zp_cells hcell' hy;have s1:=hq x (List.mem_of_getElem? hx);have s2:=hr y (List.mem_of_getElem? hy);have hdl:=hd x (List.mem_of_getElem? hx);rw [hxy] at R2 s2;obtain⟨s,dv⟩:=x;obtain⟨s',du⟩:=y;simp only at hxy R1 R2 s1 s2 hdl
   have heq:=fun W (hW:Below w.heap.size w W)=>(eqSet_any s dv du W (s1.below hW) (s2.below hW) hdl).mono (R':=fun e w'=>e=.returned (.bool true)∧Below w.heap.size w w') (by rintro e w' ⟨he,hb⟩;exact⟨he,hW.trans (hb.mono hW.size)⟩)
   obtain⟨o,ty,tt,da⟩:=s;simp only at R1 R2 heq
   have hS:∀ W,Below w.heap.size w W->((W.cell? ⟨b,off+k*4,none⟩=some (.string o)∧W.cell? ⟨b,off+k*4+1,none⟩=some (.int .i64 ty)∧W.cell? ⟨b,off+k*4+2,none⟩=some (.int .i64 tt)∧W.cell? ⟨b,off+k*4+3,none⟩=some dv)∧(W.cell? ⟨b',off'+k*4,none⟩=some (.string o)∧W.cell? ⟨b',off'+k*4+1,none⟩=some (.int .i64 ty)∧W.cell? ⟨b',off'+k*4+2,none⟩=some (.int .i64 tt)∧W.cell? ⟨b',off'+k*4+3,none⟩=some du))∧Below w.heap.size w W:=by
    intro W hW;have put:∀ {B O:Nat} {z:Value},w.cell? ⟨B,O,none⟩=some z->W.cell? ⟨B,O,none⟩=some z:=fun h=>(hW.cell (World.block_lt_of_cell? w _ h)).trans h
    exact⟨⟨⟨put R1.1,put R1.2.1,put R1.2.2.1,put R1.2.2.2⟩,⟨put R2.1,put R2.2.1,put R2.2.2.1,put R2.2.2.2⟩⟩,hW⟩
   have hS0:=hS wr.drew hbel.drew;have i1:(0:Int)<=(k:Int):=by omega
   have i2:(k:Int)<(qs.length:Int):=by omega
   clear hc hc' hcell hcell' hx hy R1 R2 s1 s2 hq hr he hd;go_wp2;go_region_held3 (fun W=>((W.cell? ⟨b,off+k*4,none⟩=some (.string o)∧W.cell? ⟨b,off+k*4+1,none⟩=some (.int .i64 ty)∧W.cell? ⟨b,off+k*4+2,none⟩=some (.int .i64 tt)∧W.cell? ⟨b,off+k*4+3,none⟩=some dv)∧(W.cell? ⟨b',off'+k*4,none⟩=some (.string o)∧W.cell? ⟨b',off'+k*4+1,none⟩=some (.int .i64 ty)∧W.cell? ⟨b',off'+k*4+2,none⟩=some (.int .i64 tt)∧W.cell? ⟨b',off'+k*4+3,none⟩=some du))∧Below w.heap.size w W) (first|with_reducible assumption|with_reducible exact hS0) ((first|(go_at_call 39;refine(heq _ hS0.2).mono ?_;rintro e w' ⟨rfl,hb1⟩;have hS1:=hS _ hb1)))
   go_wp2;go_roundw
   case rel=>exact⟨k+1,by omega,by go_num,hS1.2⟩
   case measure=>simp [intOf];omega
  ·clear hc hc' hq hr;have i2:(qs.length:Int)<=(k:Int):=by omega
   go_wp2;go_ret;exact⟨rfl,hbel⟩
set_option maxRecDepth 100000 in
set_option maxHeartbeats 800000 in
theorem eqZone_any(o:ByteArray)(v u:Value)(qs rs:List Zp)(w:World)(h:ZRow w v qs)(h':ZRow w u rs)(he:qs.map (·.1)=rs.map (·.1))(hd:∀ q∈qs,q.1.da.length<=1000000000):
 Calls Tryz.prog 9 #[.agg #[.string o,v],.agg #[.string o,u]] w fun e w'=>e=.returned (.bool true)∧Below w.heap.size w w':=by
 obtain⟨e3,e4⟩:=strz_ne o;have hB:=((Below.refl w.heap.size w).alloc (Nat.le_refl _) (.cells #[.string o,v] 31)).alloc (by simp) (.cells #[.string o,u] 31);have hone:=eqSetS_any v u qs rs _ (h.below hB) (h'.below hB) he hd;obtain⟨⟨_,a,cap,rfl,_⟩,_⟩:=h;obtain⟨⟨_,a',cap',rfl,_⟩,_⟩:=h';clear he hd;go_enter Tryz.func9,Tryz.ntmps9;go_wp2_with (go_at_call 21;refine hone.mono ?_;rintro e w1 ⟨rfl,hb1⟩)
 go_ret;exact⟨rfl,Nm.below_two hB hb1⟩
end Go.Proofs.YtcihkbojmbfmmaaGreatDoor
namespace Go.Proofs.YtcihkbojmbfmmaaGreatDoor
open Go.RowKit Go.Deep
set_option linter.unusedVariables false
section
variable {H:Type}{enc:TypeId×Value->H}{w:World}{base:Nat}{held:Bool}
theorem set_c:Tryz.prog.cellsOf 9=1∧Tryz.prog.cellsOf 2=1∧Tryz.prog.cellsOf 48=1∧Tryz.prog.cellsOf 50=4:=⟨by kernel_rfl,by kernel_rfl,by kernel_rfl,by kernel_rfl⟩
theorem open_srow{fuel:Nat}{v:Value}{x:DataW H×List MemPlace}(h:DataW.trod enc Tryz.prog w base (fun _=>true) held fuel 48 [v]=some x):
 ∃ ls,Nm.SRow w v ls∧∀ y∈ls,y.size<=maxLen:=by
 rcases Go.Deep.open_strs Tryz.underlying48 Tryz.underlying9 (by kernel_rfl) h with⟨hcs,_⟩|⟨a,l,c,m,Sx,hcs,_,hl,hm,hz,_,hcell⟩
 ·simp at hcs;subst hcs;exact⟨[],⟨none,0,rfl,by simp,by decide,fun _=>rfl,fun h=>absurd rfl h⟩,by simp⟩
 ·simp at hcs;subst hcs;have hz':m=c:=by simpa using hz
  subst hz';refine⟨(List.range l).map Sx,⟨some a,m,by simp,by simpa using hl,hm,(fun h=>by cases h),fun hne=>?_⟩,?_⟩
  ·have hpos:0<l:=by
    rcases Nat.eq_zero_or_pos l with h|h
    ·subst h;simp at hne
    ·exact h
   obtain⟨b,off,spot⟩:=a;have h0:=(hcell 0 (by omega)).1;have hspot:spot=none:=by simpa [Addr.add] using World.cell?_spot h0
   subst hspot;refine⟨b,off,rfl,?_⟩;intro i x hx
   have hi:i<l:=by
    have:=(List.getElem?_eq_some_iff.1 hx).1;simpa using this
   have:=(hcell i (by omega)).1;rw [Nm.addr_add] at this;rw [this];simp [hi] at hx
   rw [hx]
  ·intro y hy;simp only [List.mem_map,List.mem_range] at hy;obtain⟨i,hi,rfl⟩:=hy;exact(hcell i (by omega)).2
set_option maxRecDepth 100000 in
theorem open_set{fuel:Nat}{cs:List Value}{x:DataW H×List MemPlace}(h:DataW.trod enc Tryz.prog w base (fun _=>true) held fuel 50 cs=some x)(hl:cs.length=4):
 ∃ p:Zp,cs=zpV p∧Nm.SRow w p.2 p.1.da∧p.1.own.size<=maxLen∧∀ y∈p.1.da,y.size<=maxLen:=by
 obtain⟨xs,n,_,_,_,hxl,hf⟩:=DataW.trod_struct Tryz.underlying50 h;obtain⟨c1,c2,c3,_⟩:=set_c
 match cs,hl with
 |[v0,v1,v2,v3],_=>
  have g0:=hf 0 _ rfl;have g1:=hf 1 _ rfl;have g2:=hf 2 _ rfl;have g3:=hf 3 _ rfl
  match xs,hxl with
  |[y0,y1,y2,y3],_=>
   simp [c1,c2,c3] at g0 g1 g2 g3
   obtain⟨s0,e0,_,w0⟩:=DataW.trod_string Tryz.underlying9 g0;obtain⟨n1,e1,_,w1⟩:=DataW.trod_int Tryz.underlying2 g1;obtain⟨n2,e2,_,w2⟩:=DataW.trod_int Tryz.underlying2 g2;obtain⟨ls,hs,hy⟩:=open_srow g3;simp at e0 e1 e2;subst e0 e1 e2;exact⟨(⟨s0,n1,n2,ls⟩,v3),rfl,hs,w0,hy⟩
theorem choose_zp{n:Nat}{p:Nat->Zp->Prop}(h:∀ i,i<n->∃ x,p i x):∃ f:Nat->Zp,∀ i,i<n->p i (f i):=by
 classical
 refine⟨fun i=>if hi:i<n then Classical.choose (h i hi) else(⟨.empty,0,0,[]⟩,.slice none 0 0),fun i hi=>?_⟩;simp only [dif_pos hi];exact Classical.choose_spec (h i hi)
set_option maxRecDepth 100000 in
theorem open_sets{t:TypeId}{fuel:Nat}{v:Value}{x:DataW H×List MemPlace}(ht:Tryz.prog.underlying t=some (.slice 50))(h:DataW.trod enc Tryz.prog w base (fun _=>true) held fuel t [v]=some x):
 ∃ ps:List Zp,ZRow w v ps∧ZFit ps:=by
 rcases open_slice ht h with⟨e,_⟩|⟨a,len,cap,m,n,D,Pl,e,hb,hl,hm,hmm,_,hx⟩
 ·simp at e;subst e;exact⟨[],⟨⟨rfl,none,0,rfl,Nat.le_refl _,by decide,fun h=>absurd h (by simp)⟩,by simp⟩,by intro p hp;simp at hp⟩
 ·simp at e;subst e;have hlm:len<=m:=by rw [hmm];split<;>omega
  obtain⟨_,_,_,c4⟩:=set_c;rw [c4] at hx
  obtain⟨f,hf⟩:=choose_zp (n:=len) (p:=fun i r=>(∀ j,j<4->w.cell? ((a.add (i*4)).add j)=(zpV r)[j]?)∧Nm.SRow w r.2 r.1.da∧r.1.own.size<=maxLen∧∀ y∈r.1.da,y.size<=maxLen) (fun i hi=>by
   obtain⟨cs',h1,h2⟩:=hx i (by omega);obtain⟨_,hlen,hcell⟩:=World.cells?_some h1;obtain⟨r,rfl,q⟩:=open_set h2 hlen
   exact⟨r,hcell,q⟩)
  refine⟨(List.range len).map f,⟨⟨?_,some a,cap,by simp,by simpa using hl,hm,fun hpos=>?_⟩,?_⟩,?_⟩
  ·rw [zpVs_len]
  ·have hlen:0<len:=by simpa using hpos
   obtain⟨b,off,spot⟩:=a;have h0:=(hf 0 hlen).1 0 (by decide);have h0':w.cell? ((Addr.mk b off spot).add (0*4+0))=some (.string (f 0).1.own):=by rw [<- add_add];exact h0
   have hspot:spot=none:=by simpa [Addr.add] using World.cell?_spot h0'
   subst hspot;refine⟨b,off,rfl,?_⟩;intro i y hy
   have hi:i<len*4:=by
    have:=(List.getElem?_eq_some_iff.1 hy).1;rw [zpVs_len] at this;simpa using this
   obtain⟨k,j,hk,hj,rfl⟩:∃ k j,k<len∧j<4∧i=k*4+j:=⟨i / 4,i % 4,by omega,by omega,by omega⟩;rw [zpVs_at _ k j (f k) (by simp [hk]) hj] at hy;have:=(hf k hk).1 j hj;rw [add_add,hy,Nm.addr_add] at this;exact this
  ·intro p hp;simp only [List.mem_map,List.mem_range] at hp;obtain⟨i,hi,rfl⟩:=hp;exact(hf i hi).2.1
  ·intro p hp;simp only [List.mem_map,List.mem_range] at hp;obtain⟨i,hi,rfl⟩:=hp;exact(hf i hi).2.2
end
end Go.Proofs.YtcihkbojmbfmmaaGreatDoor
namespace Go.Proofs.YtcihkbojmbfmmaaGreatDoor
open Go.RowKit
set_option linter.unusedVariables false
structure Only (p:Nat) (w w':World):Prop where
 os:w'.os=w.os
 tape:w'.tape=w.tape
 output:w'.output=w.output
 size:w.heap.size<=w'.heap.size
 block:∀ k,k<w.heap.size->k≠p->w'.heap[k]? =w.heap[k]?
theorem Only.refl(p:Nat)(w:World):Only p w w:=⟨rfl,rfl,rfl,Nat.le_refl _,fun _ _ _=>rfl⟩
theorem Only.drew{p:Nat}{w w':World}(h:Only p w w'):Only p w w'.drew:=⟨h.os,h.tape,h.output,h.size,h.block⟩
theorem Only.then{p q:Nat}{w w1 w2:World}(h:Only p w w1)(h2:Only q w1 w2)(hq:q=p∨w.heap.size<=q):Only p w w2:=
 ⟨h2.os.trans h.os,h2.tape.trans h.tape,h2.output.trans h.output,Nat.le_trans h.size h2.size,fun k hk hp=>(h2.block k (Nat.lt_of_lt_of_le hk h.size) (by rcases hq with rfl|hq<;>omega)).trans (h.block k hk hp)⟩
theorem Only.more{p:Nat}{w w1 w2:World}(h:Only p w w1)(h2:Below w1.heap.size w1 w2):Only p w w2:=
 ⟨h2.os.trans h.os,h2.tape.trans h.tape,h2.output.trans h.output,Nat.le_trans h.size h2.size,fun k hk hp=>(h2.block k (Nat.lt_of_lt_of_le hk h.size)).trans (h.block k hk hp)⟩
theorem Only.alloc{p:Nat}{w w':World}(h:Only p w w')(o:Obj):Only p w (w'.alloc o):=h.more ((Below.refl _ _).alloc (Nat.le_refl _) o)
theorem Only.set{p i:Nat}{w w':World}{v:Value}(h:Only p w w'):Only p w (w'.setCell ⟨p,i,none⟩ v):=by
 have h1:=(Below.refl 0 w').setCell (p:=⟨p,i,none⟩) (Nat.zero_le _) v;refine⟨h1.os.trans h.os,h1.tape.trans h.tape,h1.output.trans h.output,Nat.le_trans h.size h1.size,fun k hk hp=>?_⟩;rw [Below.heap_setCell _ _ _ _ hp];exact h.block k hk hp
theorem Only.blk{p b:Nat}{w w':World}{cs:Array Value}{T:TypeId}(h:Only p w w')(hb:Blk w b cs T)(hne:b≠p):Blk w' b cs T:=(h.block b (blk_lt hb) hne).trans hb
theorem Only.cell{p:Nat}{w w':World}{b i:Nat}{v:Value}(h:Only p w w')(hne:b≠p)(hc:w.cell? ⟨b,i,none⟩=some v):w'.cell? ⟨b,i,none⟩=some v:=
 (World.cell?_of_block (w:=w) (h.block b (World.block_lt_of_cell? w _ hc) hne)).trans hc
theorem Only.below{p B:Nat}{w0 w w':World}(h:Only p w w')(hb:Below B w0 w)(hp:B<=p)(hB:B<=w.heap.size):Below B w0 w':=
 ⟨h.os.trans hb.os,h.tape.trans hb.tape,h.output.trans hb.output,Nat.le_trans hb.size h.size,fun k hk=>(h.block k (by omega) (by omega)).trans (hb.block k hk)⟩
end Go.Proofs.YtcihkbojmbfmmaaGreatDoor
namespace Go.Proofs.YtcihkbojmbfmmaaGreatDoor
open Go.RowKit
end Go.Proofs.YtcihkbojmbfmmaaGreatDoor
namespace Go.Proofs.YtcihkbojmbfmmaaGreatDoor
open Go.RowKit
set_option linter.unusedVariables false
abbrev Wd:=BitVec 32
def wV(x:Wd):Value:=.int .u32 (x.toNat:Int)
theorem u32_wrap(n:Nat)(h:n<4294967296):IntKind.u32.wrap (n:Int)=(n:Int):=by
 have e:(n:Int) % 2 ^ 32=n:=Int.emod_eq_of_lt (by omega) (by omega);simp only [IntKind.wrap,IntKind.bits,IntKind.signed,e];simp
theorem w_ofInt(x:Wd):BitVec.ofInt 32 (x.toNat:Int)=x:=by
 rw [BitVec.ofInt_natCast,BitVec.ofNat_toNat,BitVec.setWidth_eq]
theorem w_or(x y:Wd):bits .or .u32 (x.toNat:Int) (y.toNat:Int)=((x|||y).toNat:Int):=by
 show IntKind.u32.wrap ((BitVec.ofInt 32 (x.toNat:Int)|||BitVec.ofInt 32 (y.toNat:Int)).toNat:Int)=_
 rw [w_ofInt,w_ofInt];exact u32_wrap _ (x|||y).isLt
theorem w_and(x y:Wd):bits .and .u32 (x.toNat:Int) (y.toNat:Int)=((x&&& y).toNat:Int):=by
 show IntKind.u32.wrap ((BitVec.ofInt 32 (x.toNat:Int)&&& BitVec.ofInt 32 (y.toNat:Int)).toNat:Int)=_
 rw [w_ofInt,w_ofInt];exact u32_wrap _ (x&&& y).isLt
theorem w_xor(x y:Wd):bits .xor .u32 (x.toNat:Int) (y.toNat:Int)=((x ^^^ y).toNat:Int):=by
 show IntKind.u32.wrap ((BitVec.ofInt 32 (x.toNat:Int) ^^^ BitVec.ofInt 32 (y.toNat:Int)).toNat:Int)=_
 rw [w_ofInt,w_ofInt];exact u32_wrap _ (x ^^^ y).isLt
theorem w_add(x y:Wd):((x.toNat:Int)+(y.toNat:Int)) % 4294967296=((x+y).toNat:Int):=by
 rw [BitVec.toNat_add];omega
theorem w_shr(x:Wd)(n:Nat):(x.toNat:Int) / 2 ^ n=((x>>>n).toNat:Int):=by
 rw [BitVec.toNat_ushiftRight,Nat.shiftRight_eq_div_pow,Int.natCast_ediv,Int.natCast_pow];rfl
theorem w_shl(x:Wd)(n:Nat):(x.toNat:Int)*2 ^ n % 4294967296=((x<<<n).toNat:Int):=by
 rw [BitVec.toNat_shiftLeft,Nat.shiftLeft_eq,Int.natCast_emod,Int.natCast_mul,Int.natCast_pow];rfl
def turnW(x:Wd)(n:Nat):Wd:=(x>>>n)|||(x<<<(32-n))
def s0W(x:Wd):Wd:=turnW x 7 ^^^ turnW x 18 ^^^ (x>>>3)
def s1W(y:Wd):Wd:=turnW y 17 ^^^ turnW y 19 ^^^ (y>>>10)
def KL:List Nat:=[1116352408,1899447441,3049323471,3921009573,961987163,1508970993,2453635748,2870763221,3624381080,310598401,607225278,1426881987,1925078388,2162078206,2614888103,3248222580,3835390401,4022224774,264347078,604807628,770255983,1249150122,1555081692,1996064986,2554220882,2821834349,2952996808,3210313671,3336571891,3584528711,113926993,338241895,666307205,773529912,1294757372,1396182291,1695183700,1986661051,2177026350,2456956037,2730485921,2820302411,3259730800,3345764771,3516065817,3600352804,4094571909,275423344,430227734,506948616,659060556,883997877,958139571,1322822218,1537002063,1747873779,1955562222,2024104815,2227730452,2361852424,2428436474,2756734187,3204031479,3329325298]
def KW(i:Nat):Wd:=BitVec.ofNat 32 ((KL[i]?).getD 0)
def wF(m:Nat->Wd)(i:Nat):Wd:=if h:i<16 then m i else wF m (i-16)+s0W (wF m (i-15))+wF m (i-7)+s1W (wF m (i-2))
theorem wF_low{m:Nat->Wd}{i:Nat}(h:i<16):wF m i=m i:=by rw [wF,dif_pos h]
theorem wF_high{m:Nat->Wd}{i:Nat}(h:¬i<16):wF m i=wF m (i-16)+s0W (wF m (i-15))+wF m (i-7)+s1W (wF m (i-2)):=by rw [wF,dif_neg h]
structure Sv where
 a:Wd
 b:Wd
 c:Wd
 d:Wd
 e:Wd
 f:Wd
 g:Wd
 h:Wd
def t1W(s:Sv)(k w:Wd):Wd:=s.h+(turnW s.e 6 ^^^ turnW s.e 11 ^^^ turnW s.e 25)+((s.e&&& s.f) ^^^ (~~~s.e&&& s.g))+k+w
def t2W(s:Sv):Wd:=(turnW s.a 2 ^^^ turnW s.a 13 ^^^ turnW s.a 22)+((s.a&&& s.b) ^^^ (s.a&&& s.c) ^^^ (s.b&&& s.c))
def roundW(s:Sv)(k w:Wd):Sv:=⟨t1W s k w+t2W s,s.a,s.b,s.c,s.d+t1W s k w,s.e,s.f,s.g⟩
def roundsW(m:Nat->Wd)(s:Sv):Nat->Sv
 |0=>s
 |i+1=>roundW (roundsW m s i) (KW i) (wF m i)
def addSv(x y:Sv):Sv:=⟨x.a+y.a,x.b+y.b,x.c+y.c,x.d+y.d,x.e+y.e,x.f+y.f,x.g+y.g,x.h+y.h⟩
def svL(s:Sv):List Wd:=[s.a,s.b,s.c,s.d,s.e,s.f,s.g,s.h]
def H0:Sv:=⟨1779033703,3144134277,1013904242,2773480762,1359893119,2600822924,528734635,1541459225⟩
def bW(t:List UInt8)(k:Nat):Wd:=BitVec.ofNat 32 ((t[k]?).getD 0).toNat
theorem bW_nat(t:List UInt8)(k:Nat):(bW t k).toNat=((t[k]?).getD 0).toNat:=by
 rw [bW,BitVec.toNat_ofNat];have:=((t[k]?).getD 0).toNat_lt;omega
def wordAt(t:List UInt8)(k:Nat):Wd:=(bW t k<<<24)|||(bW t (k+1)<<<16)|||(bW t (k+2)<<<8)|||bW t (k+3)
def hashW(t:List UInt8):Nat->Sv
 |0=>H0
 |n+1=>addSv (hashW t n) (roundsW (fun i=>wordAt t (64*n+4*i)) (hashW t n) 64)
def padTo(l:List UInt8):List UInt8:=l++[128]++List.replicate ((119-l.length % 64) % 64) 0
def lenL(n:Nat):List UInt8:=(List.range 8).map fun i=>UInt8.ofNat (8*n / 2 ^ (8*(7-i)))
def padL(l:List UInt8):List UInt8:=padTo l++lenL l.length
def outL(s:Sv):List UInt8:=(svL s).flatMap fun x=>[UInt8.ofNat (x.toNat / 16777216),UInt8.ofNat (x.toNat / 65536),UInt8.ofNat (x.toNat / 256),UInt8.ofNat x.toNat]
def shaL(l:List UInt8):List UInt8:=outL (hashW (padL l) ((padL l).length / 64))
set_option maxRecDepth 100000 in
set_option maxHeartbeats 800000 in
theorem l09Turn_any(x:Wd)(n:Nat)(h1:1<=n)(h2:n<=31)(w:World):
 Calls Tryz.prog 82 #[.int .u32 (x.toNat:Int),.int .u64 (n:Int)] w fun e w'=>e=.returned (.int .u32 ((turnW x n).toNat:Int))∧w'=w:=by
 have hx:=x.isLt;have i1:(0:Int)<=(n:Int):=by omega
 have i2:(n:Int)<=31:=by omega
 go_enter Tryz.func82,Tryz.ntmps82;go_wp2;go_ret;refine⟨?_,rfl⟩;rw [turnW,<- w_or,<- w_shr,<- w_shl];rfl
def wA(m:Nat->Wd)(i:Nat):Array Value:=((List.range 64).map fun j=>if j<i then wV (wF m j) else .int .u32 0).toArray
theorem wA_zero(m:Nat->Wd):wA m 0=Array.replicate 64 (.int .u32 0):=by
 simp only [wA,Nat.not_lt_zero,if_false];rfl
theorem wA_at{m:Nat->Wd}{i j:Nat}(h:j<i)(h64:j<64):(wA m i)[j]? =some (.int .u32 ((wF m j).toNat:Int)):=by
 simp [wA,h64,h,wV]
theorem wA_any{m:Nat->Wd}{i j:Nat}(h64:j<64):∃ v,(wA m i)[j]? =some v:=by simp [wA,h64]
theorem wA_set{m:Nat->Wd}{i:Nat}(h:i<64):(wA m i).setIfInBounds i (.int .u32 ((wF m i).toNat:Int))=wA m (i+1):=by
 apply Array.ext_getElem?;intro j;rw [Array.getElem?_setIfInBounds]
 by_cases hj:i=j
 ·subst hj;simp [wA,h,wV]
 ·rw [if_neg hj]
  by_cases hj64:j<64
  ·simp only [wA,List.getElem?_toArray,List.getElem?_map,List.getElem?_range hj64,Option.map_some]
   by_cases h1:j<i
   ·rw [if_pos h1,if_pos (by omega)]
   ·rw [if_neg h1,if_neg (by omega)]
  ·simp [wA,hj64]
def hvA(s:Sv):Array Value:=#[wV s.a,wV s.b,wV s.c,wV s.d,wV s.e,wV s.f,wV s.g,wV s.h]
def zN(n:Nat):Nat:=(119-n % 64) % 64
theorem zN_end(n:Nat):(n+1+zN n) % 64=56:=by unfold zN;omega
theorem zN_not{n z:Nat}(h:z<zN n):(n+1+z) % 64≠56:=by unfold zN at h;omega
theorem zN_lt(n:Nat):zN n<64:=Nat.mod_lt _ (by decide)
theorem padTo_eq(l:List UInt8):padTo l=l++[128]++List.replicate (zN l.length) 0:=rfl
theorem padTo_len(l:List UInt8):(padTo l).length=l.length+1+zN l.length:=by rw [padTo_eq];simp;omega
theorem lenL_len(n:Nat):(lenL n).length=8:=rfl
theorem padL_len(l:List UInt8):(padL l).length % 64=0∧(padL l).length<=l.length+72:=by
 have h:=zN_end l.length;have h2:zN l.length<64:=Nat.mod_lt _ (by decide);rw [padL,List.length_append,padTo_len,lenL_len];omega
theorem rep_snoc(z:Nat):List.replicate (z+1) (0:UInt8)=List.replicate z 0++[0]:=by
 rw [List.replicate_succ']
theorem lenL_take{n j:Nat}(h:j<8):(lenL n).take (j+1)=(lenL n).take j++[UInt8.ofNat (8*n / 2 ^ (8*(7-j)))]:=by
 rw [List.take_add_one];have:(lenL n)[j]? =some (UInt8.ofNat (8*n / 2 ^ (8*(7-j)))):=by simp [lenL,h]
 rw [this];rfl
end Go.Proofs.YtcihkbojmbfmmaaGreatDoor
