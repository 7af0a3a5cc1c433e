import Derived.Test.YtmdinnjimioffaaGreatJFoldM
import Derived.Test.YtmdinnjimioffaaGreatOwnS
import Derived.Test.YtmdinnjimioffaaGreatJMath
import Derived.Laws.OwnMore
import Derived.Test.YtmdinnjimioffaaGreatRows
import Derived.WalkSpells
import Derived.WalkLawsBesides
import Derived.Lib.BufferWrite
import Derived.Lib.UnsafeStr
import Derived.Laws.MakeOwn
import Derived.Test.YtmdinnjimioffaaGreatJDataM
import Derived.RegionTactic
import Derived.ChangeAlike
import Derived.BigRegion
namespace Go.Proofs.YtmdinnjimioffaaGreat.Nm
open Go.RowKit
def cmpI(a b:Int):Int:=if a<b then -1 else if b<a then 1 else 0
def ordL(a b:List UInt8):Int:=if Op.bytesLess a b=true then -1 else if a=b then 0 else 1
theorem cmpI_lt{a b:Int}(h:a<b):cmpI a b= -1:=if_pos h
theorem cmpI_gt{a b:Int}(h:b<a):cmpI a b=1:=by rw [cmpI,if_neg (by omega),if_pos h]
theorem cmpI_eq{a b:Int}(h:a=b):cmpI a b=0:=by rw [cmpI,if_neg (by omega),if_neg (by omega)]
theorem cmpI_ne{a b:Int}(h:a≠b):cmpI a b≠0:=by
 by_cases h1:a<b
 ·rw [cmpI_lt h1];decide
 ·rw [cmpI_gt (by omega)];decide
theorem ordL_nil:ordL [] []=0:=rfl
theorem ordL_left(y:UInt8)(b:List UInt8):ordL [] (y::b)= -1:=rfl
theorem ordL_right(x:UInt8)(a:List UInt8):ordL (x::a) []=1:=rfl
theorem ordL_same(x:UInt8)(a b:List UInt8):ordL (x::a) (x::b)=ordL a b:=by
 simp [ordL,Op.bytesLess]
theorem ordL_ne{x y:UInt8}(a b:List UInt8)(h:x≠y):ordL (x::a) (y::b)=cmpI x.toNat y.toNat:=by
 have hn:x.toNat≠y.toNat:=fun e=>h (UInt8.toNat_inj.1 e)
 by_cases hl:x<y
 ·have hl':(x.toNat:Int)<(y.toNat:Int):=by have:=UInt8.lt_iff_toNat_lt.1 hl;omega
  rw [cmpI_lt hl'];simp [ordL,Op.bytesLess,hl]
 ·have hl':(y.toNat:Int)<(x.toNat:Int):=by
   have:¬x.toNat<y.toNat:=fun e=>hl (UInt8.lt_iff_toNat_lt.2 e)
   omega
  rw [cmpI_gt hl'];simp [ordL,Op.bytesLess,hl,h]
theorem ord_at:∀ (k:Nat) (a b:List UInt8) (x y:UInt8),a.take k=b.take k->a[k]? =some x->b[k]? =some y->x≠y->ordL a b=cmpI x.toNat y.toNat:=by
 intro k
 induction k with
 |zero=>
  intro a b x y _ hx hy hne
  cases a with
  |nil=>simp at hx
  |cons c a=>
   cases b with
   |nil=>simp at hy
   |cons d b=>
    simp at hx hy;subst hx hy
    exact ordL_ne a b hne
 |succ k ih=>
  intro a b x y ht hx hy hne
  cases a with
  |nil=>simp at hx
  |cons c a=>
   cases b with
   |nil=>simp at hy
   |cons d b=>
    simp at ht hx hy;obtain⟨rfl,ht⟩:=ht;rw [ordL_same];exact ih a b x y ht hx hy hne
theorem ord_end:∀ (k:Nat) (a b:List UInt8),a.take k=b.take k->k<=a.length->k<=b.length->(k=a.length∨k=b.length)->ordL a b=cmpI a.length b.length:=by
 intro k
 induction k with
 |zero=>
  intro a b _ _ _ h
  cases a with
  |nil=>
   cases b with
   |nil=>rfl
   |cons d b=>rw [ordL_left,cmpI_lt (by simp)]
  |cons c a=>
   cases b with
   |nil=>rw [ordL_right,cmpI_gt (by simp)]
   |cons d b=>simp at h
 |succ k ih=>
  intro a b ht h1 h2 h
  cases a with
  |nil=>simp at h1
  |cons c a=>
   cases b with
   |nil=>simp at h2
   |cons d b=>
    simp at ht h1 h2 h;obtain⟨rfl,ht⟩:=ht;rw [ordL_same,ih a b ht h1 h2 h];simp only [List.length_cons,cmpI];congr 1
    ·simp
    ·congr 1;simp
theorem take_snoc_eq{a b:List UInt8}{k:Nat}{x y:UInt8}(h:a.take k=b.take k)(hx:a[k]? =some x)(hy:b[k]? =some y)(e:x=y):a.take (k+1)=b.take (k+1):=by
 rw [take_step hx,take_step hy,h,e]
theorem small_get{x:ByteArray}{j:Nat}(h:j<x.size):(smallL x.data.toList)[j]? =some (low x[j]):=by
 simp only [smallL,List.getElem?_map,get_data h,Option.map_some]
theorem smallL_length(x:ByteArray):(smallL x.data.toList).length=x.size:=by simp [smallL]
def ordS(x y:ByteArray):Int:=ordL (smallL x.data.toList) (smallL y.data.toList)
def cmpRev:List ByteArray->List ByteArray->Int
 |[],[]=>0
 |[],_::_=> -1
 |_::_,[]=>1
 |x::a,y::b=>if ordS x y=0 then cmpRev a b else ordS x y
def cmpLs(xs ys:List ByteArray):Int:=cmpRev xs.reverse ys.reverse
theorem cmp_stop{a b:List ByteArray}{k:Nat}{x y:ByteArray}(hx:a[k]? =some x)(hy:b[k]? =some y)(h:ordS x y≠0):cmpRev (a.drop k) (b.drop k)=ordS x y:=by
 obtain⟨h1,rfl⟩:=List.getElem?_eq_some_iff.1 hx;obtain⟨h2,rfl⟩:=List.getElem?_eq_some_iff.1 hy;rw [List.drop_eq_getElem_cons h1,List.drop_eq_getElem_cons h2,cmpRev,if_neg h]
theorem cmp_go{a b:List ByteArray}{k:Nat}{x y:ByteArray}(hx:a[k]? =some x)(hy:b[k]? =some y)(h:ordS x y=0):cmpRev (a.drop k) (b.drop k)=cmpRev (a.drop (k+1)) (b.drop (k+1)):=by
 obtain⟨h1,rfl⟩:=List.getElem?_eq_some_iff.1 hx;obtain⟨h2,rfl⟩:=List.getElem?_eq_some_iff.1 hy;rw [List.drop_eq_getElem_cons h1,List.drop_eq_getElem_cons h2,cmpRev,if_pos h]
theorem cmp_end{a b:List ByteArray}{k:Nat}(h1:k<=a.length)(h2:k<=b.length)(h:k=a.length∨k=b.length):cmpRev (a.drop k) (b.drop k)=cmpI a.length b.length:=by
 rcases h with h|h
 ·rw [List.drop_of_length_le (by omega)]
  by_cases e:k=b.length
  ·rw [List.drop_of_length_le (by omega),cmpI_eq (by omega)];rfl
  ·rw [List.drop_eq_getElem_cons (by omega:k<b.length),cmpI_lt (by omega)];rfl
 ·rw [List.drop_of_length_le (l:=b) (by omega)]
  by_cases e:k=a.length
  ·rw [List.drop_of_length_le (by omega),cmpI_eq (by omega)];rfl
  ·rw [List.drop_eq_getElem_cons (by omega:k<a.length),cmpI_gt (by omega)];rfl
theorem rev_get{ls:List ByteArray}{k:Nat}(h:k<ls.length){x:ByteArray}(hx:ls[ls.length-(k+1)]? =some x):ls.reverse[k]? =some x:=by
 rw [List.getElem?_reverse h,<- hx];congr 1;omega
def cmpS(a b:ByteArray):Int:=
 match split a,split b with
 |some xs,some ys=>cmpLs xs ys
 |_,_=>0
end Go.Proofs.YtmdinnjimioffaaGreat.Nm
namespace Go.Proofs.YtmdinnjimioffaaGreat
open Go.RowKit
def CRow(w:World)(v:Value)(n s:Nat)(cs:List Value):Prop:=
 cs.length=n*s∧∃ a cap,v=.slice a n cap∧n<=cap∧cap<=maxLen∧
  (0<n->∃ b off,a=some ⟨b,off,none⟩∧∀ (i:Nat) (x:Value),cs[i]? =some x->w.cell? ⟨b,off+i,none⟩=some x)
theorem CRow.of_owns{w:World}{B e s n:Nat}{v:Value}{cs:List Value}(h:w.ownsRow B e s v n cs):CRow w v n s cs:=by
 refine⟨h.1,?_⟩
 rcases h.2 with⟨rfl,h0⟩|⟨g,cap,cur,rfl,hb,hg,hn,hm,hs,ht⟩
 ·subst h0;exact⟨none,0,rfl,Nat.le_refl _,by decide,fun h=>by omega⟩
 ·refine⟨_,cap,rfl,hn,hm,fun _=>⟨g,0,rfl,?_⟩⟩;intro i x hx;have hi:i<n*s:=by rw [<- h.1];exact(List.getElem?_eq_some_iff.1 hx).1
  rw [Nat.zero_add,h.cellAt i hi];exact hx
theorem CRow.below{w w':World}{v:Value}{n s:Nat}{cs:List Value}(h:CRow w v n s cs)(hb:Below w.heap.size w w'):CRow w' v n s cs:=by
 obtain⟨h0,a,cap,rfl,h1,h2,h3⟩:=h;refine⟨h0,a,cap,rfl,h1,h2,fun hp=>?_⟩;obtain⟨b,off,rfl,hc⟩:=h3 hp;refine⟨b,off,rfl,fun i x hx=>?_⟩;have:=hc i x hx;rw [hb.cell (World.block_lt_of_cell? w _ this)];exact this
end Go.Proofs.YtmdinnjimioffaaGreat
namespace Go.Proofs.YtmdinnjimioffaaGreat
open Go.RowKit
set_option linter.unusedVariables false
theorem hgr_step{w w1 w2:World}{g:Nat}(h:w.grownBy w1 (some g))(h2:w1.grownBy w2 (some g)):w.grownBy w2 (some g):=
 ⟨h2.os.trans h.os,h2.tape.trans h.tape,h2.output.trans h.output,Nat.le_trans h.size h2.size,fun k hk hne=>(h2.block k (Nat.lt_of_lt_of_le hk h.size) hne).trans (h.block k hk hne)⟩
theorem hgr_below{w w1 w2:World}{g:Nat}(h:w.grownBy w1 (some g))(h2:Below w1.heap.size w1 w2):w.grownBy w2 (some g):=
 ⟨h2.os.trans h.os,h2.tape.trans h.tape,h2.output.trans h.output,Nat.le_trans h.size h2.size,fun k hk hne=>
  (h2.block k (Nat.lt_of_lt_of_le hk h.size)).trans (h.block k hk hne)⟩
def Blk(w:World)(b:Nat)(cs:Array Value)(T:TypeId):Prop:=w.heap[b]? =some (.cells cs T (0,0))
theorem blk_lt{w:World}{b:Nat}{cs:Array Value}{T:TypeId}(h:Blk w b cs T):b<w.heap.size:=(Array.getElem?_eq_some_iff.1 h).1
theorem blk_grown{w w1:World}{b:Nat}{cs:Array Value}{T:TypeId}{row:Option Nat}(h:Blk w b cs T)(hg:w.grownBy w1 row)(hr:row≠some b):Blk w1 b cs T:=by
 unfold Blk;rw [hg.block b (blk_lt h) (fun e=>hr e.symm)];exact h
theorem blk_below{w w1:World}{b:Nat}{cs:Array Value}{T:TypeId}(h:Blk w b cs T)(hb:Below w.heap.size w w1):Blk w1 b cs T:=by
 unfold Blk;rw [hb.block b (blk_lt h)];exact h
theorem blk_new(w:World)(cs:Array Value)(T:TypeId):Blk (w.alloc (.cells cs T)) w.heap.size cs T:=by
 unfold Blk;show(w.heap.push _)[w.heap.size]? =_;simp
theorem blk_alloc{w:World}{b:Nat}{cs:Array Value}{T:TypeId}(h:Blk w b cs T)(o:Obj):Blk (w.alloc o) b cs T:=
 blk_below h ((Below.refl _ _).alloc (Nat.le_refl _) o)
theorem blk_cell{w:World}{b:Nat}{cs:Array Value}{T:TypeId}(h:Blk w b cs T)(i:Nat):w.cell? ⟨b,i,none⟩=cs[i]? :=cell_of_row _ _ _ _ _ _ h
theorem blk_frozen{w:World}{b:Nat}{cs:Array Value}{T:TypeId}(h:Blk w b cs T)(i:Nat):w.frozen? ⟨b,i,none⟩=false:=frozen_of_row w b i _ _ h
theorem blk_set{w:World}{b:Nat}{cs:Array Value}{T:TypeId}(h:Blk w b cs T)(i:Nat)(v:Value):Blk (w.setCell ⟨b,i,none⟩ v) b (cs.setIfInBounds i v) T:=heap_setCell_same w b i _ _ v h
theorem blk_far{w:World}{b c i:Nat}{cs:Array Value}{T:TypeId}{v:Value}(h:Blk w b cs T)(hne:b≠c):Blk (w.setCell ⟨c,i,none⟩ v) b cs T:=by
 unfold Blk;rw [heap_setCell_other w ⟨c,i,none⟩ b _ (by simpa using hne)];exact h
def setAll(w:World)(b i:Nat):List Value->World
 |[]=>w
 |v::vs=>setAll (w.setCell ⟨b,i,none⟩ v) b (i+1) vs
theorem setAll_same{b:Nat}{T:TypeId}:∀ (vs old pre:List Value) (w:World),Blk w b (pre++old).toArray T->old.length=vs.length->Blk (setAll w b pre.length vs) b (pre++vs).toArray T:=by
 intro vs
 induction vs with
 |nil=>
  intro old pre w h hl;have:old=[]:=List.length_eq_zero_iff.1 hl;subst this
  exact h
 |cons v vs ih=>
  intro old pre w h hl
  cases old with
  |nil=>simp at hl
  |cons x old=>
   have h2:=blk_set h pre.length v;have e:(pre++x::old).toArray.setIfInBounds pre.length v=((pre++[v])++old).toArray:=by simp
   rw [e] at h2;have h3:=ih old (pre++[v]) _ h2 (by simpa using hl);rw [List.length_append] at h3;simpa [setAll] using h3
theorem setAll_new{b:Nat}{T:TypeId}{old:Array Value}(vs:List Value){w:World}(h:Blk w b old T)(hl:old.size=vs.length):Blk (setAll w b 0 vs) b vs.toArray T:=by
 have:=setAll_same vs old.toList [] w (by simpa using h) (by simpa using hl);simpa using this
theorem blk_drew{w:World}{b:Nat}{cs:Array Value}{T:TypeId}(h:Blk w b cs T):Blk w.drew b cs T:=h
def rowCs(rs:List (Value×Value)):List Value:=rs.flatMap fun p=>[p.1,p.2]
theorem rowCs_at:∀ (rs:List (Value×Value)) (k j:Nat) (x:Value×Value),rs[k]? =some x->j<2->(rowCs rs)[k*2+j]? =[x.1,x.2][j]? :=by
 intro rs
 induction rs with
 |nil=>intro k j x h;simp at h
 |cons y rs ih=>
  intro k j x h hj;have e:rowCs (y::rs)=[y.1,y.2]++rowCs rs:=by simp [rowCs]
  cases k with
  |zero=>
   simp at h;subst h
   rw [e,Nat.zero_mul,Nat.zero_add,List.getElem?_append_left (by simpa using hj)]
  |succ k=>
   simp at h;rw [e,List.getElem?_append_right (by simp;omega),show(k+1)*2+j - [y.1,y.2].length=k*2+j by simp;omega];exact ih k j x h hj
def Fnd(n:Nat)(cf:Nat->Int)(k:Nat):Prop:=k<=n∧(∀ i,i<k->cf i<0)∧(∀ i,k<=i->i<n->0<=cf i)
theorem Fnd.unique{n:Nat}{cf:Nat->Int}{a b:Nat}(ha:Fnd n cf a)(hb:Fnd n cf b):a=b:=by
 obtain⟨a1,a2,a3⟩:=ha;obtain⟨b1,b2,b3⟩:=hb
 rcases Nat.lt_trichotomy a b with h|h|h
 ·have h1:=b2 a h;have h2:=a3 a (Nat.le_refl _) (by omega);omega
 ·exact h
 ·have h1:=a2 b h;have h2:=b3 b (Nat.le_refl _) (by omega);omega
theorem rowCs_take(rs:List (Value×Value))(k:Nat):rowCs (rs.take k)=(rowCs rs).take (k*2):=by
 induction rs generalizing k with
 |nil=>simp [rowCs]
 |cons x rs ih=>
  have e:∀ z zs,rowCs (z::zs)=[z.1,z.2]++rowCs zs:=by intro z zs;simp [rowCs]
  cases k with
  |zero=>simp [rowCs]
  |succ k=>
   rw [List.take_succ_cons,e,e,ih,List.take_append,List.take_of_length_le (l:=[x.1,x.2]) (i:=(k+1)*2) (by simp;omega),show(k+1)*2 - [x.1,x.2].length=k*2 by simp;omega]
theorem rowCs_drop(rs:List (Value×Value))(k:Nat):rowCs (rs.drop k)=(rowCs rs).drop (k*2):=by
 induction rs generalizing k with
 |nil=>simp [rowCs]
 |cons x rs ih=>
  have e:∀ z zs,rowCs (z::zs)=[z.1,z.2]++rowCs zs:=by intro z zs;simp [rowCs]
  cases k with
  |zero=>simp
  |succ k=>
   rw [List.drop_succ_cons,e,ih,List.drop_append,List.drop_of_length_le (l:=[x.1,x.2]) (i:=(k+1)*2) (by simp;omega),show(k+1)*2 - [x.1,x.2].length=k*2 by simp;omega,List.nil_append]
theorem rowCs_ins(rs:List (Value×Value))(k:Nat)(a b:Value):(rowCs rs).take (k*2)++[a,b]++(rowCs rs).drop (k*2)=rowCs (rs.take k++[(a,b)]++rs.drop k):=by
 rw [<- rowCs_take,<- rowCs_drop];simp [rowCs]
theorem rowCs_one{rs:List (Value×Value)}(h:∀ p∈rs,p.1.oneCell'=true∧p.2.oneCell'=true):∀ u∈rowCs rs,u.oneCell'=true:=by
 intro u hu;simp only [rowCs,List.mem_flatMap] at hu;obtain⟨p,hp,hu⟩:=hu;simp at hu
 rcases hu with rfl|rfl
 ·exact(h p hp).1
 ·exact(h p hp).2
structure Kp2 (g:Nat) (rb:Option Nat) (w w':World):Prop where
 os:w'.os=w.os
 tape:w'.tape=w.tape
 output:w'.output=w.output
 size:w.heap.size<=w'.heap.size
 block:∀ k,k<w.heap.size->k≠g->rb≠some k->w'.heap[k]? =w.heap[k]?
theorem Kp2.blk{g b:Nat}{rb:Option Nat}{w w':World}{cs:Array Value}{T:TypeId}(h:Kp2 g rb w w')(hb:Blk w b cs T)(h1:b≠g)(h2:rb≠some b):Blk w' b cs T:=(h.block b (blk_lt hb) h1 h2).trans hb
theorem isNaN64_any(a:Int)(w:World):Calls Tryz.prog 138 #[.int .i64 a] w fun e w'=>e=.returned (.bool false)∧w'=w:=by
 have e:(a != a)=false:=by simp
 go_enter Tryz.func138,Tryz.ntmps138;go_wp2;go_ret;exact⟨rfl,rfl⟩
theorem cmp64_any(a b:Int)(w:World):Calls Tryz.prog 117 #[.int .i64 a,.int .i64 b] w fun e w'=>e=.returned (.int .i64 (Nm.cmpI a b))∧w'=w:=by
 have h1:=fun x W=>isNaN64_any x W
 by_cases hlt:a<b
 ·rw [Nm.cmpI_lt hlt];go_enter Tryz.func117,Tryz.ntmps117;go_wp2_with (go_at_call 138;refine(h1 _ _).mono ?_;rintro e w' ⟨rfl,hw'⟩;obtain rfl:=hw'.symm)
  go_ret;exact⟨rfl,rfl⟩
 ·by_cases hgt:b<a
  ·rw [Nm.cmpI_gt hgt];go_enter Tryz.func117,Tryz.ntmps117;go_wp2_with (go_at_call 138;refine(h1 _ _).mono ?_;rintro e w' ⟨rfl,hw'⟩;obtain rfl:=hw'.symm)
   go_ret;exact⟨rfl,rfl⟩
  ·obtain rfl:a=b:=by omega
   rw [Nm.cmpI_eq rfl];go_enter Tryz.func117,Tryz.ntmps117;go_wp2_with (go_at_call 138;refine(h1 _ _).mono ?_;rintro e w' ⟨rfl,hw'⟩;obtain rfl:=hw'.symm)
   go_ret;exact⟨rfl,rfl⟩
end Go.Proofs.YtmdinnjimioffaaGreat
namespace Go.Proofs.YtmdinnjimioffaaGreat
open Go.RowKit
theorem Tryz.infoU8c:(Tryz.prog.info? 5).map (fun i=>(i.zero,i.size,i.bytes))=some (some (.int .u8 0),1,1):=by kernel_rfl
set_option maxRecDepth 100000 in
set_option maxHeartbeats 800000 in
theorem clone_any(s:ByteArray)(w:World)(hs:s.size<=1000000000):
 Calls Tryz.prog 64 #[.string s] w fun e w'=>e=.returned (.string s)∧Below w.heap.size w w':=by
 by_cases h0:s.size=0
 ·have hs0:s=⟨#[]⟩:=by
   apply ByteArray.ext;exact Array.eq_empty_of_size_eq_zero h0
  subst hs0;go_enter Tryz.func64,Tryz.ntmps64;go_wp2;go_ret;exact⟨rfl,Below.refl _ _⟩
 ·obtain⟨i0,hi,hz0,hz1,hz2⟩:=info_parts Tryz.infoU8c;have hinfo:(Tryz.prog.info? 5).map (·.size)=some 1:=by rw [hi];simp [hz1]
  have hco:Tryz.prog.cellsOf 5=1:=by simp [Program.cellsOf,hi,hz1]
  obtain⟨M,hM⟩:∃ M,M=madeCells (Value.int .u8 0).cells (((s.size:Nat):Int).toNat*i0.size):=⟨_,rfl⟩;have hMs:M.size=s.size:=by rw [hM,size_madeCells,hz1];simp
  have hmk:∀ W:World,(Instr.makeSlice 22 (.int .i64 (s.size:Int)) (.int .i64 (s.size:Int))).run Tryz.prog W=.ok (.slice (some ⟨W.heap.size,0,none⟩) s.size s.size) (W.alloc (.cells M 5)):=by
   intro W;have h:=run_make (P:=Tryz.prog) W 22 5 i0 (.int .u8 0) Tryz.underlying22 hi hz0 .i64 .i64 (s.size:Int) (s.size:Int) (by omega) (by omega) (by rw [hz2];omega) (by omega);rw [<- hM] at h;simpa using h
  clear hM;have hcp:=Lib.run_copy_row_string (P:=Tryz.prog) (w.alloc (.cells M 5)) 22 9 3 5 w.heap.size 0 s.size s.size s M 5 Tryz.underlying22 hinfo (heap_alloc_new w _) (Nat.le_refl _) (by omega);obtain⟨Y,hY⟩:∃ Y,Y=(M.toList.take 0++Lib.byteCells s.data.toList++M.toList.drop (0+s.size)).toArray:=⟨_,rfl⟩;rw [<- hY] at hcp
  have hYl:Y.toList=Lib.byteCells s.data.toList:=by
   rw [hY,List.toList_toArray,List.take_zero,List.nil_append,List.drop_of_length_le (by rw [Array.length_toList];omega),List.append_nil]
  have hgY:((w.alloc (.cells M 5)).setRow w.heap.size Y).heap[w.heap.size]? =some (.cells Y 5 (0,0)):=setRow_heap _ _ M _ 5 (0,0) (heap_alloc_new w _);have hlen:s.data.toList.length=s.size:=by simp
  have hYs:Y.size=s.size:=by rw [<- Array.length_toList,hYl,Lib.byteCells_length,hlen]
  have hne:s.data.toList≠[]:=fun e=>h0 (by rw [<- hlen,e];rfl)
  have hUS:=Lib.run_unsafeString_row (P:=Tryz.prog) ((w.alloc (.cells M 5)).setRow w.heap.size Y) 171 3 9 5 Tryz.underlying171 hco w.heap.size Y.size (by unfold World.shape?;rw [hgY]) s.data.toList hne (by omega) (by omega)
   (by
    intro j x hx;rw [Nm.addr_add,Nat.zero_add,cell_of_row _ _ _ _ _ _ hgY,<- Array.getElem?_toList,hYl]
    simp only [Lib.byteCells,List.getElem?_map,hx,Option.map_some])
  rw [hlen] at hUS;clear hY;go_enter Tryz.func64,Tryz.ntmps64;go_wp2;go_ret;have hb1:Below w.heap.size w (w.alloc (.cells M 5)):=(Below.refl _ w).alloc (Nat.le_refl _) _;have hb2:Below w.heap.size (w.alloc (.cells M 5)) ((w.alloc (.cells M 5)).setRow w.heap.size Y):=⟨rfl,rfl,rfl,by simp,fun k hk=>setRow_other _ _ _ _ (by omega)⟩;exact⟨rfl,Lib.below_freeze (hb1.trans hb2) (p:=⟨w.heap.size,0,none⟩) (Nat.le_refl _) _⟩
end Go.Proofs.YtmdinnjimioffaaGreat
namespace Go.Proofs.YtmdinnjimioffaaGreat.Dt
open Go.RowKit
def txsF:Nat->ByteArray->Nat
 |0,_=>0
 |f+1,d=>if(txtS d).size=0 then 0 else(txtS d).size+txsF f (d.extract (txtS d).size d.size)
theorem txt_le(d:ByteArray):(txtS d).size<=d.size:=by
 unfold txtS;split
 ·split
  ·simp;omega
  ·simp
 ·simp
theorem txsF_enough:∀ (f g:Nat) (d:ByteArray),d.size<f->d.size<g->txsF f d=txsF g d:=by
 intro f
 induction f with
 |zero=>intro g d hf;omega
 |succ f ih=>
  intro g d hf hg
  cases g with
  |zero=>omega
  |succ g=>
   rw [txsF,txsF]
   by_cases h:(txtS d).size=0
   ·rw [if_pos h,if_pos h]
   ·have:=txt_le d;rw [if_neg h,if_neg h,ih g _ (by simp;omega) (by simp;omega)]
def txsS(d:ByteArray):Nat:=txsF (d.size+1) d
theorem txs_none{d:ByteArray}(h:(txtS d).size=0):txsS d=0:=by rw [txsS,txsF,if_pos h]
theorem txs_step{d:ByteArray}(h:(txtS d).size≠0):txsS d=(txtS d).size+txsS (d.extract (txtS d).size d.size):=by
 have:=txt_le d;rw [txsS,txsF,if_neg h,txsF_enough _ ((d.extract (txtS d).size d.size).size+1) _ (by simp;omega) (by simp)];rfl
theorem txsF_le:∀ (f:Nat) (d:ByteArray),txsF f d<=d.size:=by
 intro f
 induction f with
 |zero=>intro d;simp [txsF]
 |succ f ih=>
  intro d;rw [txsF];split
  ·omega
  ·have:=ih (d.extract (txtS d).size d.size);have h2:=txt_le d;simp at this;omega
theorem txs_le(d:ByteArray):txsS d<=d.size:=txsF_le _ d
def tagB(d:ByteArray):Bool:=decide (2<=(txtS d).size)&&decide ((txtS d).size<=16)&&((txtS d).data.toList.drop 1).all alnumB
abbrev Pc:Type:=Option (Option (Option (Option (Option (Option (Option (Option Nat)))))))
abbrev Pc.nm:Pc:=none
abbrev Pc.tx:Pc:=some none
abbrev Pc.txs:Pc:=some (some none)
abbrev Pc.txe:Pc:=some (some (some none))
abbrev Pc.tag:Pc:=some (some (some (some none)))
abbrev Pc.tagr:Pc:=some (some (some (some (some none))))
abbrev Pc.mp:Pc:=some (some (some (some (some (some none)))))
abbrev Pc.rs:Pc:=some (some (some (some (some (some (some none))))))
abbrev Pc.bs(n:Nat):Pc:=some (some (some (some (some (some (some (some n)))))))
theorem Pc.elim{P:Pc->Prop}(p:Pc)(nm:P Pc.nm)(bs:∀ n,P (Pc.bs n))(tx:P Pc.tx)(txs:P Pc.txs)(txe:P Pc.txe)(tag:P Pc.tag)(tagr:P Pc.tagr)(mp:P Pc.mp)(rs:P Pc.rs):P p:=by
 rcases p with _|_|_|_|_|_|_|_|n
 ·exact nm
 ·exact tx
 ·exact txs
 ·exact txe
 ·exact tag
 ·exact tagr
 ·exact mp
 ·exact rs
 ·exact bs n
def Pc.isN:Pc->Bool
 |none=>true
 |some _=>false
def sz:Pc->ByteArray->Option Nat
 |none,d=>if(nameAtS d).size=0 then none else some (nameAtS d).size
 |some none,d=>if(txtS d).size=0 then none else some (txtS d).size
 |some (some none),d=>if txsS d=0 then none else some (txsS d)
 |some (some (some none)),d=>if txsS d=0∨txsS d≠d.size then none else some d.size
 |some (some (some (some none))),d=>if tagB d then some (txtS d).size else none
 |some (some (some (some (some none)))),d=>if tagB d then some d.size else none
 |some (some (some (some (some (some none))))),d=>if mapS d then some d.size else none
 |some (some (some (some (some (some (some none)))))),d=>some d.size
 |some (some (some (some (some (some (some (some n))))))),d=>if n<=d.size then some n else none
theorem nameF_le:∀ (f:Nat) (s:ByteArray) (i:Nat),(nameF f s i).size<=s.size:=by
 intro f
 induction f with
 |zero=>intro s i;simp [nameF]
 |succ f ih=>
  intro s i;rw [nameF];split
  ·split
   ·simp;omega
   ·split
    ·simp
    ·exact ih _ _
  ·simp
theorem name_le(s:ByteArray):(nameAtS s).size<=s.size:=nameF_le _ _ _
theorem sz_le{p:Pc}{d:ByteArray}{n:Nat}(h:sz p d=some n):n<=d.size:=by
 have h1:=name_le d;have h2:=txt_le d;have h3:=txs_le d;cases p using Pc.elim<;>simp only [sz] at h
 all_goals first
  |(split at h
    ·simp at h
    ·simp at h;omega)
  |(split at h
    ·simp at h;omega
    ·simp at h)
  |(simp at h;omega)
def parts:List Pc->ByteArray->Option (List ByteArray)
 |[],d=>if d.size=0 then some [] else none
 |p::r,d=>
  match sz p d with
  |none=>none
  |some n=>(parts r (d.extract n d.size)).map (fun l=>d.extract 0 n::l)
def spans:List Pc->Nat->ByteArray->Option (List (Nat×Nat))
 |[],_,d=>if d.size=0 then some [] else none
 |p::r,a,d=>
  match sz p d with
  |none=>none
  |some n=>(spans r (a+n) (d.extract n d.size)).map (fun l=>if p.isN then(a,a+n)::l else l)
def spansOf:List Pc->List ByteArray->Nat->List (Nat×Nat)
 |p::r,x::xs,a=>if p.isN then(a,a+x.size)::spansOf r xs (a+x.size) else spansOf r xs (a+x.size)
 |_,_,_=>[]
theorem spans_of_parts:∀ (fs:List Pc) (d:ByteArray) (a:Nat),spans fs a d=(parts fs d).map (fun ps=>spansOf fs ps a):=by
 intro fs
 induction fs with
 |nil=>intro d a;rw [spans,parts];split<;>simp [spansOf]
 |cons p r ih=>
  intro d a;rw [spans,parts]
  cases h:sz p d with
  |none=>simp
  |some n=>
   have hn:=sz_le h;simp only [ih]
   cases parts r (d.extract n d.size) with
   |none=>simp
   |some l=>
    have:(d.extract 0 n).size=n:=by simp;omega
    simp [spansOf,this]
theorem spans_bs(m n:Nat)(r:List Pc)(a:Nat)(d:ByteArray):spans (.bs m::.bs n::r) a d=spans (.bs (m+n)::r) a d:=by
 rw [spans,spans];simp only [sz]
 by_cases h:m<=d.size
 ·rw [if_pos h];simp only [spans,sz];have e:(d.extract m d.size).size=d.size-m:=by simp
  rw [e]
  by_cases h2:m+n<=d.size
  ·rw [if_pos (by omega),if_pos h2]
   have e2:(d.extract m d.size).extract n (d.size-m)=d.extract (m+n) d.size:=by
    rw [ByteArray.extract_extract];congr 1;omega
   simp only [e2,Pc.isN,Nat.add_assoc];simp
  ·rw [if_neg (by omega),if_neg h2];simp
 ·rw [if_neg h,if_neg (by omega)]
theorem spans_tag(a:Nat)(d:ByteArray):spans [.tagr] a d=spans [.tag,.rs] a d:=by
 have h2:=txt_le d;simp only [spans,sz]
 by_cases h:tagB d
 ·simp [h,Pc.isN]
 ·simp [h]
theorem spans_txs(a:Nat)(d:ByteArray):spans [.txs] a d=spans [.txe] a d:=by
 have h3:=txs_le d;simp only [spans,sz]
 by_cases h:txsS d=0
 ·simp [h]
 ·by_cases h2:txsS d=d.size
  ·have h4:d.size≠0:=by omega
   simp [h2,h4,Pc.isN]
  ·simp [h,h2]
   omega
def letP(c:UInt8):Pc:=
 if c=110 then .nm else if c=98 then .bs 1 else if c=116 then .tx else if c=115 then .txs else if c=99 then .tagr else if c=109 then .mp else .rs
def specP(t:Int):List Pc:=(formS t).data.toList.map letP
def implP(t:Int):List Pc:=
 if t=1 then [.bs 4]
 else if t=28 then [.bs 16]
 else if t=2∨t=5∨t=12∨t=39 then [.nm]
 else if t=15 then [.bs 2,.nm]
 else if t=6 then [.nm,.nm,.bs 20]
 else if t=33 then [.bs 6,.nm]
 else if t=16 then [.txe]
 else if t=13 then [.tx,.tx]
 else if t=35 then [.bs 4,.tx,.tx,.tx,.nm]
 else if t=257 then [.bs 1,.tag,.rs]
 else if t=47 then [.nm,.mp]
 else [.rs]
theorem spans_cons{p:Pc}{r r':List Pc}(h:∀ a d,spans r a d=spans r' a d)(a:Nat)(d:ByteArray):spans (p::r) a d=spans (p::r') a d:=by
 rw [spans,spans]
 cases sz p d with
 |none=>rfl
 |some n=>simp only [h]
theorem forms_agree(t:Int)(a:Nat)(d:ByteArray):spans (specP t) a d=spans (implP t) a d:=by
 unfold specP implP formS
 by_cases h1:t=1
 ·subst h1;simp [letP,spans_bs]
 by_cases h2:t=2∨t=5∨t=12∨t=39
 ·have:t≠28:=by omega
  simp [h1,h2,this,letP]
 by_cases h3:t=6
 ·subst h3;simp [letP]
  refine spans_cons (fun a d=>?_) a d;refine spans_cons (fun a d=>?_) a d;simp [spans_bs]
 by_cases h4:t=13
 ·subst h4;simp [letP]
 by_cases h5:t=15
 ·subst h5;simp [letP,spans_bs]
 by_cases h6:t=16
 ·subst h6;simp [letP,spans_txs]
 by_cases h7:t=28
 ·subst h7;simp [letP,spans_bs]
 by_cases h8:t=33
 ·subst h8;simp [letP,spans_bs]
 by_cases h9:t=35
 ·subst h9;simp [letP,spans_bs]
 by_cases h10:t=47
 ·subst h10;simp [letP]
 by_cases h11:t=257
 ·subst h11;simp [letP]
  exact spans_cons (fun a d=>spans_tag a d) a d
 simp [h1,h2,h3,h4,h5,h6,h7,h8,h9,h10,h11,letP]
end Go.Proofs.YtmdinnjimioffaaGreat.Dt
namespace Go.Proofs.YtmdinnjimioffaaGreat.Dt
open Go.RowKit
set_option linter.unusedVariables false
theorem ext_get{s:ByteArray}{i e:Nat}(h:i<e)(he:e<=s.size):(s.extract i e)[0]'(by simp;omega)=s[i]:=by
 rw [ByteArray.getElem_extract];simp
theorem ext_ext{s:ByteArray}{i e n:Nat}(h:i+n<=e)(he:e<=s.size):(s.extract i e).extract n (s.extract i e).size=s.extract (i+n) e:=by
 rw [ByteArray.extract_extract];congr 1;simp
 omega
theorem nameF_name:∀ (f:Nat) (s:ByteArray) (i:Nat),(nameF f s i).size≠0->
 ∃ e,i<e∧e<=255∧e<=s.size∧nameF f s i=s.extract 0 e∧∀ g,e-i<g->(Nm.splitF g (s.extract i e)).isSome=true:=by
 intro f
 induction f with
 |zero=>intro s i h;simp [nameF] at h
 |succ f ih=>
  intro s i h;rw [nameF] at h ⊢
  by_cases h1:i<s.size∧i<255
  ·rw [dif_pos h1] at h ⊢
   by_cases h2:s[i].toNat=0
   ·rw [if_pos h2];refine⟨i+1,by omega,by omega,by omega,rfl,?_⟩;intro g hg;obtain⟨g,rfl⟩:∃ k,g=k+1:=⟨g-1,by omega⟩;rw [Nm.splitF_end g _ (by simp;omega) (by rw [ext_get (by omega) (by omega)];exact h2) (by simp;omega)];rfl
   ·rw [if_neg h2] at h ⊢
    by_cases h3:63<s[i].toNat
    ·rw [if_pos h3] at h;simp at h
    ·rw [if_neg h3] at h ⊢;obtain⟨e,e1,e2,e3,e4,e5⟩:=ih s _ h;refine⟨e,by omega,e2,e3,e4,?_⟩;intro g hg;obtain⟨g,rfl⟩:∃ k,g=k+1:=⟨g-1,by omega⟩;have hp:0<(s.extract i e).size:=by simp;omega
     have h0:(s.extract i e)[0]=s[i]:=ext_get (by omega) e3;rw [Nm.splitF_step g _ hp (by rw [h0];exact h2) (by rw [h0];omega) (by rw [h0];simp;omega),h0,ext_ext (by omega) e3];have:=e5 g (by omega);rw [show i+(s[i].toNat+1)=i+s[i].toNat+1 by omega];simpa using this
  ·rw [dif_neg h1] at h;simp at h
theorem nameAt_name{s:ByteArray}(h:(nameAtS s).size≠0):(Nm.split (nameAtS s)).isSome=true:=by
 obtain⟨e,e1,e2,e3,e4,e5⟩:=nameF_name 256 s 0 h;have e6:nameAtS s=s.extract 0 e:=e4;rw [e6,Nm.split_short _ (by simp;omega)];exact e5 256 (by omega)
theorem ext_all(s:ByteArray):s.extract 0 s.size=s:=by simp
theorem splitF_nameF:∀ (g:Nat) (f:Nat) (s:ByteArray) (i:Nat),s.size<=255->255<f+i->i<=s.size->(Nm.splitF g (s.extract i s.size)).isSome=true->nameF f s i=s:=by
 intro g
 induction g with
 |zero=>intro f s i _ _ _ h;simp [Nm.splitF] at h
 |succ g ih=>
  intro f s i hs hf hi h
  by_cases hp:i<s.size
  ·obtain⟨f,rfl⟩:∃ k,f=k+1:=⟨f-1,by omega⟩;have hz:(s.extract i s.size).size=s.size-i:=by simp
   have hq:0<(s.extract i s.size).size:=by omega
   have h0:(s.extract i s.size)[0]=s[i]:=ext_get hp (Nat.le_refl _);rw [nameF,dif_pos ⟨hp,by omega⟩]
   by_cases h2:s[i].toNat=0
   ·rw [if_pos h2]
    by_cases h3:(s.extract i s.size).size=1
    ·rw [show i+1=s.size by omega];exact ext_all s
    ·rw [Nm.splitF_zero g _ hq (by rw [h0];exact h2) h3] at h;simp at h
   ·rw [if_neg h2]
    by_cases h3:63<s[i].toNat∨s.size-i<s[i].toNat+1
    ·rw [Nm.splitF_bad g _ hq (by rw [h0];exact h2) (by rw [h0,hz];exact h3)] at h;simp at h
    ·rw [if_neg (by omega)];rw [Nm.splitF_step g _ hq (by rw [h0];exact h2) (by rw [h0];omega) (by rw [h0,hz];omega),h0,ext_ext (by omega) (Nat.le_refl _)] at h;refine ih f s _ hs (by omega) (by omega) ?_;rw [show i+(s[i].toNat+1)=i+s[i].toNat+1 by omega] at h;simpa using h
  ·rw [Nm.splitF_empty _ _ (by simp;omega)] at h;simp at h
theorem name_iff(s:ByteArray):(Nm.split s).isSome=true↔(nameAtS s).size≠0∧(nameAtS s).size=s.size:=by
 constructor
 ·intro h
  by_cases hl:s.size<=255
  ·rw [Nm.split_short s hl] at h;have e:nameAtS s=s:=splitF_nameF 256 256 s 0 hl (by omega) (by omega) (by simpa using h);rw [e];refine⟨?_,rfl⟩;intro h0;rw [Nm.splitF_empty _ _ h0] at h;simp at h
  ·rw [Nm.split_long s (by omega)] at h;simp at h
 ·rintro⟨h0,h⟩
  obtain⟨e,e1,e2,e3,e4,e5⟩:=nameF_name 256 s 0 h0;have e6:nameAtS s=s.extract 0 e:=e4;have e7:e=s.size:=by rw [e6] at h;simp at h;omega
  have e8:nameAtS s=s:=by rw [e6,e7];exact ext_all s
  have:=nameAt_name h0
  rwa [e8] at this
def catL(ps:List ByteArray):List UInt8:=(ps.map (fun x=>x.data.toList)).flatten
def foldL:List Pc->List ByteArray->List UInt8
 |p::r,x::xs=>(if p.isN then Nm.smallL x.data.toList else x.data.toList)++foldL r xs
 |_,_=>[]
theorem ext_cat(d:ByteArray)(n:Nat)(h:n<=d.size):(d.extract 0 n).data.toList++(d.extract n d.size).data.toList=d.data.toList:=by
 have e1:(d.extract 0 n).data.toList=d.data.toList.take n:=by simp
 have e2:(d.extract n d.size).data.toList=d.data.toList.drop n:=by
  simp only [ByteArray.data_extract,Array.toList_extract];rw [List.extract_eq_take_drop,List.take_of_length_le (by simp)]
 rw [e1,e2,List.take_append_drop]
theorem parts_cat:∀ (fs:List Pc) (d:ByteArray) (ps:List ByteArray),parts fs d=some ps->fs.length=ps.length∧catL ps=d.data.toList∧
 ∀ (i:Nat) (p:Pc) (x:ByteArray),fs[i]? =some p->ps[i]? =some x->p.isN=true->(Nm.split x).isSome=true:=by
 intro fs
 induction fs with
 |nil=>
  intro d ps h;rw [parts] at h
  split at h
  ·rename_i h0;simp at h;subst h;refine⟨rfl,?_,?_⟩
   ·have:d.data.toList.length=0:=by simpa using h0
    rw [List.length_eq_zero_iff.1 this];rfl
   ·intro i p x h;simp at h
  ·simp at h
 |cons p r ih=>
  intro d ps h;rw [parts] at h
  cases hs:sz p d with
  |none=>rw [hs] at h;simp at h
  |some n=>
   rw [hs] at h;have hn:=sz_le hs
   cases hr:parts r (d.extract n d.size) with
   |none=>simp [hr] at h
   |some l=>
    simp [hr] at h
    obtain⟨i1,i2,i3⟩:=ih _ _ hr;subst h;refine⟨by simp [i1],?_,?_⟩
    ·have:catL (d.extract 0 n::l)=(d.extract 0 n).data.toList++catL l:=by simp [catL]
     rw [this,i2,ext_cat d n hn]
    ·intro i q x hq hx hN
     cases i with
     |zero=>
      simp at hq hx;subst hq;subst hx;cases p using Pc.elim<;>simp [Pc.isN] at hN
      simp only [sz] at hs
      split at hs
      ·simp at hs
      ·rename_i h0;simp at hs;obtain⟨e,e1,e2,e3,e4,e5⟩:=nameF_name 256 d 0 h0;have e6:nameAtS d=d.extract 0 e:=e4;have e7:e=n:=by rw [e6] at hs;simp at hs;omega
       rw [<- e7,<- e6]
       exact nameAt_name h0
     |succ i=>
      simp at hq hx;exact i3 i q x hq hx hN
def lowIn(s:Nat×Nat)(l:List UInt8):List UInt8:=l.take s.1++(Nm.smallL ((l.drop s.1).take (s.2-s.1))++l.drop s.2)
def lowAll(sp:List (Nat×Nat))(l:List UInt8):List UInt8:=sp.foldl (fun l s=>lowIn s l) l
theorem lowAll_parts:∀ (fs:List Pc) (ps:List ByteArray) (pre:List UInt8),fs.length=ps.length->lowAll (spansOf fs ps pre.length) (pre++catL ps)=pre++foldL fs ps:=by
 intro fs
 induction fs with
 |nil=>
  intro ps pre h;have:ps=[]:=List.length_eq_zero_iff.1 (by simpa using h.symm);subst this
  simp [spansOf,lowAll,foldL,catL]
 |cons p r ih=>
  intro ps pre h
  cases ps with
  |nil=>simp at h
  |cons x xs=>
   have hl:r.length=xs.length:=by simpa using h
   have hx:x.data.toList.length=x.size:=by simp
   have hc:catL (x::xs)=x.data.toList++catL xs:=by simp [catL]
   rw [spansOf,hc,foldL]
   cases hN:p.isN with
   |true=>
    simp only [if_true]
    have e1:lowIn (pre.length,pre.length+x.size) (pre++(x.data.toList++catL xs))=(pre++Nm.smallL x.data.toList)++catL xs:=by
     have k1:(pre++(x.data.toList++catL xs)).take pre.length=pre:=List.take_left' rfl;have k2:(pre++(x.data.toList++catL xs)).drop pre.length=x.data.toList++catL xs:=List.drop_left' rfl;have k3:(x.data.toList++catL xs).take x.size=x.data.toList:=List.take_left' hx
     have k4:(pre++(x.data.toList++catL xs)).drop (pre.length+x.size)=catL xs:=by
      rw [<- List.append_assoc];exact List.drop_left' (by rw [List.length_append,hx])
     simp only [lowIn];rw [k1,k2,Nat.add_sub_cancel_left,k3,k4,List.append_assoc]
    have e2:lowAll ((pre.length,pre.length+x.size)::spansOf r xs (pre.length+x.size)) (pre++(x.data.toList++catL xs))=lowAll (spansOf r xs (pre.length+x.size)) ((pre++Nm.smallL x.data.toList)++catL xs):=by
     rw [<- e1];rfl
    have e3:pre.length+x.size=(pre++Nm.smallL x.data.toList).length:=by simp [Nm.smallL]
    rw [e2,e3,ih xs _ hl]
    simp
   |false=>
    simp only [if_false,Bool.false_eq_true];have e3:pre.length+x.size=(pre++x.data.toList).length:=by simp
    rw [e3,<- List.append_assoc,ih xs _ hl];simp
def foldDS(t:Int)(d:ByteArray):ByteArray:=
 match spans (implP t) 0 d with
 |none=>ByteArray.empty
 |some sp=>⟨(lowAll sp d.data.toList).toArray⟩
theorem foldDS_some{t:Int}{d:ByteArray}{ps:List ByteArray}(h:parts (specP t) d=some ps):foldDS t d=⟨(foldL (specP t) ps).toArray⟩:=by
 obtain⟨h1,h2,h3⟩:=parts_cat _ _ _ h;rw [foldDS,<- forms_agree,spans_of_parts,h];have:=lowAll_parts (specP t) ps [] h1;simp only [List.length_nil,List.nil_append] at this;rw [h2] at this;simp only [Option.map_some,this]
end Go.Proofs.YtmdinnjimioffaaGreat.Dt
namespace Go.Proofs.YtmdinnjimioffaaGreat
open Go.RowKit
def BRow(w:World)(g:Nat)(l:List UInt8):Prop:=∀ j c,l[j]? =some c->w.cell? ⟨g,j,none⟩=some (.int .u8 c.toNat)∧w.frozen? ⟨g,j,none⟩=false
theorem BRow.set{w:World}{g k:Nat}{l:List UInt8}{d:UInt8}(h:BRow w g l)(hk:k<l.length):BRow (w.setCell ⟨g,k,none⟩ (.int .u8 d.toNat)) g (l.set k d):=by
 intro j c hj;obtain⟨x,hx⟩:∃ x,l[k]? =some x:=⟨_,List.getElem?_eq_getElem hk⟩
 by_cases e:k=j
 ·subst e;rw [List.getElem?_set_self hk] at hj;simp at hj;subst hj;exact⟨World.cell?_setCell_same _ _ _ (h k x hx).1,by rw [World.frozen?_setCell];exact(h k x hx).2⟩
 ·rw [List.getElem?_set_ne e] at hj;refine⟨?_,by rw [World.frozen?_setCell];exact(h j c hj).2⟩;rw [World.cell?_setCell_other w ⟨g,k,none⟩ ⟨g,j,none⟩ _ (by intro h;cases h;exact e rfl)];exact(h j c hj).1
theorem new_bytes(s:ByteArray)(w:World):∃ cap W,s.size<=cap∧(s.size<=maxLen->cap<=maxLen)∧
 (convert 9 22 (.string s)).run Tryz.prog w=.ok (.slice (some ⟨w.heap.size,0,none⟩) s.size cap) W∧BRow W w.heap.size s.data.toList∧Below w.heap.size w W:=by
 refine⟨_,_,grownCap_ge w s.size 0 5,grownCap_le_maxLen w s.size 0 5,run_bytes_of_string w 9 22 5 s Tryz.underlying9 Tryz.underlying22 Tryz.underlying5,?_,?_⟩
 ·intro j c hj
  have hj':j<s.data.size:=by
   have:=(List.getElem?_eq_some_iff.1 hj).1;simpa using this
  have hc:s.data[j]=c:=by
   have:=(List.getElem?_eq_some_iff.1 hj).2;simpa using this
  constructor
  ·have e:=cell_of_row (w.drew.alloc (.cells (bytesRow s (grownCap w s.size 0 5)) 5 ((bytesRow s (grownCap w s.size 0 5)).size,(bytesRow s (grownCap w s.size 0 5)).size+1))) w.heap.size j _ 5 _ (heap_alloc_new w.drew _);rw [e,bytesRow_at s _ j hj',hc]
  ·have e:=World.frozen?_alloc_mark w.drew (bytesRow s (grownCap w s.size 0 5)) 5 (bytesRow s (grownCap w s.size 0 5)).size ((bytesRow s (grownCap w s.size 0 5)).size+1) j;rw [show w.heap.size=w.drew.heap.size from rfl,e];have:s.data.size<=(bytesRow s (grownCap w s.size 0 5)).size:=by simp [bytesRow]
   simp;omega
 ·exact((Below.refl _ w).drew).alloc (Nat.le_refl _) _
end Go.Proofs.YtmdinnjimioffaaGreat
namespace Go.Proofs.YtmdinnjimioffaaGreat
open Go.RowKit
theorem conv_one(n:Int)(W:World):
 (convert 22 9 (.slice (some ⟨W.heap.size,0,none⟩) 1 1)).run Tryz.prog (W.alloc (.cells #[.int .u8 n] 5))=.ok (.string ⟨#[UInt8.ofNat n.toNat]⟩) (W.alloc (.cells #[.int .u8 n] 5)):=by
 rw [run_convert_bytes_string _ 22 9 5 _ _ _ Tryz.underlying22 Tryz.underlying5 Tryz.underlying9];have hl:=run_loadCells_list (P:=Tryz.prog) (W.alloc (.cells #[.int .u8 n] 5)) ⟨W.heap.size,0,none⟩ ([n].map (Value.int .u8)) (fun j v hj=>cell_one_new W (.int .u8 n) 5 j v hj);rw [run_bytesToString _ _ 1 1 [n] hl];rfl
theorem conv_one_drew(n:Int)(W:World):
 (convert 22 9 (.slice (some ⟨W.heap.size,0,none⟩) 1 1)).run Tryz.prog (W.alloc (.cells #[.int .u8 n] 5)).drew=.ok (.string ⟨#[UInt8.ofNat n.toNat]⟩) (W.alloc (.cells #[.int .u8 n] 5)).drew:=
 conv_one n W.drew
theorem ret_str{a b:ByteArray}(h:a=b):Ending.returned (.string a)=.returned (.string b):=by rw [h]
theorem byte_mod(n:Nat):UInt8.ofNat (n % 256)=UInt8.ofNat n:=by
 apply UInt8.toNat_inj.1;simp
theorem ba_ext{a b:ByteArray}(h:a.data.toList=b.data.toList):a=b:=by
 apply ByteArray.ext;exact Array.toList_inj.1 h
theorem size_list(s:ByteArray):s.data.toList.length=s.size:=by simp
end Go.Proofs.YtmdinnjimioffaaGreat
namespace Go.Proofs.YtmdinnjimioffaaGreat
open Go.RowKit
theorem mk_size(l:List UInt8):(⟨l.toArray⟩:ByteArray).size=l.length:=by show l.toArray.size=_;simp
end Go.Proofs.YtmdinnjimioffaaGreat
namespace Go.Proofs.YtmdinnjimioffaaGreat
open Go.RowKit
end Go.Proofs.YtmdinnjimioffaaGreat
namespace Go.Proofs.YtmdinnjimioffaaGreat
open Go.RowKit
set_option linter.unusedVariables false
abbrev Wd:=BitVec 32
def wV(x:Wd):Value:=.int .u32 (x.toNat:Int)
def turnW(x:Wd)(n:Nat):Wd:=(x>>>n)|||(x<<<(32-n))
def s0W(x:Wd):Wd:=turnW x 7 ^^^ turnW x 18 ^^^ (x>>>3)
def s1W(y:Wd):Wd:=turnW y 17 ^^^ turnW y 19 ^^^ (y>>>10)
def wF(m:Nat->Wd)(i:Nat):Wd:=if h:i<16 then m i else wF m (i-16)+s0W (wF m (i-15))+wF m (i-7)+s1W (wF m (i-2))
structure Sv where
 a:Wd
 b:Wd
 c:Wd
 d:Wd
 e:Wd
 f:Wd
 g:Wd
 h:Wd
def H0:Sv:=⟨1779033703,3144134277,1013904242,2773480762,1359893119,2600822924,528734635,1541459225⟩
def wA(m:Nat->Wd)(i:Nat):Array Value:=((List.range 64).map fun j=>if j<i then wV (wF m j) else .int .u32 0).toArray
end Go.Proofs.YtmdinnjimioffaaGreat
namespace Go.Proofs.YtmdinnjimioffaaGreat
open Go.RowKit
end Go.Proofs.YtmdinnjimioffaaGreat
namespace Go.Proofs.YtmdinnjimioffaaGreat.Nm
open Go.RowKit
section
variable {s:ByteArray}{st:Bool}{k:Nat}{now:List UInt8}{done:List ByteArray}
end
end Go.Proofs.YtmdinnjimioffaaGreat.Nm
namespace Go.Proofs.YtmdinnjimioffaaGreat
open Go.RowKit
end Go.Proofs.YtmdinnjimioffaaGreat
