import Derived.Test.YtmdinnjimioffaaGreatJCmpM
import Derived.Test.YtmdinnjimioffaaGreatJSameM
import Derived.Test.YtmdinnjimioffaaGreatJMath
import Derived.Test.YtmdinnjimioffaaGreatRows
import Derived.WalkSpells
import Derived.WalkLawsBesides
import Derived.Lib.Bytealg
import Derived.Laws.Externs
import Derived.RegionTactic
import Derived.Test.YtmdinnjimioffaaGreatOwnS
import Derived.BigRegion
import Derived.Deep.OwnRows
import Derived.OpenShut
import Derived.Test.YtmdinnjimioffaaGreatJOrdL
import Derived.Test.YtmdinnjimioffaaGreatJFoldM
namespace Go.Proofs.YtmdinnjimioffaaGreat
open Go.RowKit
set_option linter.unusedVariables false
structure GSe where
 blk:Nat
 hd:Nat
 rv:Value
 ty:Int
 tt:Int
 fi:Nat
 da:List (ByteArray×ByteArray)
structure GOw where
 blk:Nat
 hd:Nat
 rv:Value
 lv:Value
 lab:List ByteArray
 nm:ByteArray
 ss:List GSe
def ptr(b:Nat):Value:=.pointer (some ⟨b,0,none⟩)
def daRs(l:List (ByteArray×ByteArray)):List (Value×Value):=l.map fun p=>(.string p.1,.string p.2)
def seRs(l:List GSe):List (Value×Value):=l.map fun s=>(.int .i64 s.ty,ptr s.blk)
def owRs(l:List GOw):List (Value×Value):=l.map fun o=>(o.lv,ptr o.blk)
def cmpSv:Value:=.func (.func 121) #[] #[]
def cmpIv:Value:=.func (.func 117) #[] #[]
def cmpLv:Value:=.func (.func 84) #[] #[]
def fpS(s:GSe):List Nat:=s.blk::s.hd::s.rv.ownBlock.toList
def fpO(o:GOw):List Nat:=o.blk::o.hd::(o.rv.ownBlock.toList++o.ss.flatMap fpS)
def fpT(th:Nat)(rv:Value)(os:List GOw):List Nat:=th::(rv.ownBlock.toList++os.flatMap fpO)
structure SeAt (w:World) (B:Nat) (s:GSe):Prop where
 node:Blk w s.blk #[.int .i64 s.tt,.int .i64 (s.fi:Int),ptr s.hd] 134
 head:Blk w s.hd #[cmpSv,s.rv] 192
 rows:w.ownsRow B 195 2 s.rv (daRs s.da).length (rowCs (daRs s.da))
structure OwAt (w:World) (B:Nat) (o:GOw):Prop where
 node:Blk w o.blk #[.string o.nm,o.lv,ptr o.hd] 108
 head:Blk w o.hd #[cmpIv,o.rv] 152
 rows:w.ownsRow B 154 2 o.rv (seRs o.ss).length (rowCs (seRs o.ss))
 sets:∀ s∈o.ss,SeAt w B s
structure TrAt (w:World) (B th:Nat) (rv:Value) (os:List GOw):Prop where
 head:Blk w th #[cmpLv,rv] 145
 rows:w.ownsRow B 147 2 rv (owRs os).length (rowCs (owRs os))
 owners:∀ o∈os,OwAt w B o
 nodup:(fpT th rv os).Nodup
theorem blk_keep{w w':World}{b:Nat}{cs:Array Value}{T:TypeId}(h:Blk w b cs T)(he:w'.heap[b]? =w.heap[b]?):Blk w' b cs T:=he.trans h
theorem own_keep{w w':World}{B e s n:Nat}{v:Value}{xs:List Value}(h:w.ownsRow B e s v n xs)(he:∀ b∈v.ownBlock.toList,w'.heap[b]? =w.heap[b]?):w'.ownsRow B e s v n xs:=by
 refine⟨h.1,?_⟩
 rcases h.2 with h0|⟨q,cap,cur,rfl,hb,hh,r⟩
 ·exact .inl h0
 ·exact .inr ⟨q,cap,cur,rfl,hb,(he q (by simp [Value.ownBlock])).trans hh,r⟩
theorem SeAt.keep{w w':World}{B:Nat}{s:GSe}(h:SeAt w B s)(he:∀ b∈fpS s,w'.heap[b]? =w.heap[b]?):SeAt w' B s:=
 ⟨blk_keep h.node (he _ (by simp [fpS])),blk_keep h.head (he _ (by simp [fpS])),own_keep h.rows (fun b hb=>he b (by simp only [fpS,List.mem_cons];exact .inr (.inr hb)))⟩
theorem OwAt.keep{w w':World}{B:Nat}{o:GOw}(h:OwAt w B o)(he:∀ b∈fpO o,w'.heap[b]? =w.heap[b]?):OwAt w' B o:=
 ⟨blk_keep h.node (he _ (by simp [fpO])),blk_keep h.head (he _ (by simp [fpO])),own_keep h.rows (fun b hb=>he b (by simp only [fpO,List.mem_cons,List.mem_append];exact .inr (.inr (.inl hb)))),
  fun s hs=>(h.sets s hs).keep (fun b hb=>he b (by simp only [fpO,List.mem_cons,List.mem_append,List.mem_flatMap];exact .inr (.inr (.inr ⟨s,hs,hb⟩))))⟩
theorem TrAt.keep{w w':World}{B th:Nat}{rv:Value}{os:List GOw}(h:TrAt w B th rv os)(he:∀ b∈fpT th rv os,w'.heap[b]? =w.heap[b]?):TrAt w' B th rv os:=
 ⟨blk_keep h.head (he _ (by simp [fpT])),own_keep h.rows (fun b hb=>he b (by simp only [fpT,List.mem_cons,List.mem_append];exact .inr (.inl hb))),
  fun o ho=>(h.owners o ho).keep (fun b hb=>he b (by simp only [fpT,List.mem_cons,List.mem_append,List.mem_flatMap];exact .inr (.inr ⟨o,ho,hb⟩))),h.nodup⟩
theorem own_lt{w:World}{B e s n:Nat}{v:Value}{xs:List Value}(h:w.ownsRow B e s v n xs):∀ b∈v.ownBlock.toList,b<w.heap.size:=by
 intro b hb
 cases hv:v.ownBlock with
 |none=>rw [hv] at hb;simp at hb
 |some q=>
  rw [hv] at hb;simp at hb;subst hb;exact(h.lt _ hv).2
theorem SeAt.lt{w:World}{B:Nat}{s:GSe}(h:SeAt w B s):∀ b∈fpS s,b<w.heap.size:=by
 intro b hb;simp only [fpS,List.mem_cons] at hb
 rcases hb with rfl|rfl|hb
 ·exact blk_lt h.node
 ·exact blk_lt h.head
 ·exact own_lt h.rows b hb
theorem OwAt.lt{w:World}{B:Nat}{o:GOw}(h:OwAt w B o):∀ b∈fpO o,b<w.heap.size:=by
 intro b hb;simp only [fpO,List.mem_cons,List.mem_append,List.mem_flatMap] at hb
 rcases hb with rfl|rfl|hb|⟨s,hs,hb⟩
 ·exact blk_lt h.node
 ·exact blk_lt h.head
 ·exact own_lt h.rows b hb
 ·exact(h.sets s hs).lt b hb
theorem TrAt.lt{w:World}{B th:Nat}{rv:Value}{os:List GOw}(h:TrAt w B th rv os):∀ b∈fpT th rv os,b<w.heap.size:=by
 intro b hb;simp only [fpT,List.mem_cons,List.mem_append,List.mem_flatMap] at hb
 rcases hb with rfl|hb|⟨o,ho,hb⟩
 ·exact blk_lt h.head
 ·exact own_lt h.rows b hb
 ·exact(h.owners o ho).lt b hb
theorem TrAt.below{w w':World}{B th:Nat}{rv:Value}{os:List GOw}(h:TrAt w B th rv os)(hb:Below w.heap.size w w'):TrAt w' B th rv os:=
 h.keep (fun b hm=>hb.block b (h.lt b hm))
structure Outs (fp:List Nat) (w w':World):Prop where
 os:w'.os=w.os
 tape:w'.tape=w.tape
 output:w'.output=w.output
 size:w.heap.size<=w'.heap.size
 block:∀ k,k<w.heap.size->k∉fp->w'.heap[k]? =w.heap[k]?
theorem Outs.below{fp:List Nat}{w w':World}(h:Below w.heap.size w w'):Outs fp w w':=⟨h.os,h.tape,h.output,h.size,fun k hk _=>h.block k hk⟩
theorem Outs.trans{fp fp':List Nat}{w w1 w2:World}(h:Outs fp w w1)(h2:Outs fp' w1 w2)(hs:∀ k∈fp',k∈fp∨w.heap.size<=k):Outs fp w w2:=
 ⟨h2.os.trans h.os,h2.tape.trans h.tape,h2.output.trans h.output,Nat.le_trans h.size h2.size,fun k hk hn=>by
  rw [h2.block k (Nat.lt_of_lt_of_le hk h.size) (fun hm=>by rcases hs k hm with h1|h1;exact hn h1;omega)]
  exact h.block k hk hn⟩
theorem Outs.wide{fp fp':List Nat}{w w':World}(h:Outs fp w w')(hs:∀ k∈fp,k∈fp'):Outs fp' w w':=⟨h.os,h.tape,h.output,h.size,fun k hk hn=>h.block k hk (fun hm=>hn (hs k hm))⟩
end Go.Proofs.YtmdinnjimioffaaGreat
namespace Go.Proofs.YtmdinnjimioffaaGreat
open Go.RowKit
theorem ord_cmp:∀ (a b:List UInt8),Go.Lib.compareBytes a b=Nm.ordL a b:=by
 intro a
 induction a with
 |nil=>
  intro b
  cases b with
  |nil=>rfl
  |cons y b=>rfl
 |cons x a ih=>
  intro b
  cases b with
  |nil=>rfl
  |cons y b=>
   rw [Go.Lib.compareBytes]
   by_cases h:x=y
   ·subst h;rw [if_neg (by simp),if_neg (by simp),Nm.ordL_same,ih]
   ·rw [Nm.ordL_ne a b h];have hn:x.toNat≠y.toNat:=fun e=>h (UInt8.toNat_inj.1 e)
    by_cases hl:x<y
    ·have hl':(x.toNat:Int)<(y.toNat:Int):=by have:=UInt8.lt_iff_toNat_lt.1 hl;omega
     rw [if_pos hl,Nm.cmpI_lt hl']
    ·have hl':(y.toNat:Int)<(x.toNat:Int):=by
      have:¬x.toNat<y.toNat:=fun e=>hl (UInt8.lt_iff_toNat_lt.2 e)
      omega
     have hl2:y<x:=UInt8.lt_iff_toNat_lt.2 (by omega);rw [if_neg hl,if_pos hl2,Nm.cmpI_gt hl']
theorem cmpstring_run(a b:ByteArray)(w:World):(callFunc 157 #[.string a,.string b]).run Tryz.prog w=.ok (.value (.int .i64 (Nm.ordL a.data.toList b.data.toList))) w:=by
 have h:=run_callFunc_extern (P:=Tryz.prog) (f:=157) (fn:=Tryz.f157) (e:=Extern.BytealgCompare.compare) Tryz.func157 (by kernel_rfl) (by kernel_rfl) (by kernel_rfl) (by kernel_rfl) #[.string a,.string b] w;rw [h,Go.Lib.run_compareString,ord_cmp];rfl
set_option maxRecDepth 100000 in
set_option maxHeartbeats 400000 in
theorem compare_any'(a b:ByteArray)(w:World):
 Calls Tryz.prog 121 #[.string a,.string b] w fun e w'=>e=.returned (.int .i64 (Nm.ordL a.data.toList b.data.toList))∧w'=w:=by
 have hx:=cmpstring_run a b;generalize Nm.ordL a.data.toList b.data.toList=r at*;go_enter Tryz.func121,Tryz.ntmps121;go_wp2_with (go_at_call 140;go_in)
 go_ret;exact⟨rfl,rfl⟩
end Go.Proofs.YtmdinnjimioffaaGreat
namespace Go.Proofs.YtmdinnjimioffaaGreat
open Go.RowKit
set_option linter.unusedVariables false
structure Rr where
 own:ByteArray
 ty:Int
 cl:Int
 tt:Int
 da:ByteArray
def rvV(r:Rr):List Value:=[.string r.own,.int .i64 r.ty,.int .i64 r.cl,.int .i64 r.tt,.string r.da]
def rvVs(xs:List Rr):List Value:=xs.flatMap rvV
theorem rvVs_cons(x:Rr)(xs:List Rr):rvVs (x::xs)=rvV x++rvVs xs:=by simp [rvVs]
theorem rvVs_app(a b:List Rr):rvVs (a++b)=rvVs a++rvVs b:=by simp [rvVs]
theorem rvVs_len(xs:List Rr):(rvVs xs).length=xs.length*5:=by
 induction xs with
 |nil=>rfl
 |cons x xs ih=>
  have:(rvV x).length=5:=rfl;rw [rvVs_cons,List.length_append,ih,List.length_cons,this];omega
theorem rvVs_at:∀ (xs:List Rr) (k j:Nat) (x:Rr),xs[k]? =some x->j<5->(rvVs xs)[k*5+j]? =(rvV x)[j]? :=by
 intro xs
 induction xs with
 |nil=>intro k j x h;simp at h
 |cons y xs ih=>
  intro k j x h hj;have hl:(rvV y).length=5:=rfl
  cases k with
  |zero=>
   simp at h;subst h
   rw [rvVs_cons,Nat.zero_mul,Nat.zero_add,List.getElem?_append_left (by omega)]
  |succ k=>
   simp at h;rw [rvVs_cons,List.getElem?_append_right (by omega),hl,show(k+1)*5+j-5=k*5+j by omega];exact ih k j x h hj
theorem rv_cells{w:World}{xs:List Rr}{b off k:Nat}{x:Rr}(hc:∀ (i:Nat) (y:Value),(rvVs xs)[i]? =some y->w.cell? ⟨b,off+i,none⟩=some y)(h:xs[k]? =some x):
 w.cell? ⟨b,off+k*5,none⟩=some (.string x.own)∧w.cell? ⟨b,off+k*5+1,none⟩=some (.int .i64 x.ty)∧w.cell? ⟨b,off+k*5+2,none⟩=some (.int .i64 x.cl)∧w.cell? ⟨b,off+k*5+3,none⟩=some (.int .i64 x.tt)∧w.cell? ⟨b,off+k*5+4,none⟩=some (.string x.da):=
 ⟨hc (k*5) _ ((rvVs_at xs k 0 x h (by decide)).trans rfl),hc (k*5+1) _ ((rvVs_at xs k 1 x h (by decide)).trans rfl),hc (k*5+2) _ ((rvVs_at xs k 2 x h (by decide)).trans rfl),hc (k*5+3) _ ((rvVs_at xs k 3 x h (by decide)).trans rfl),hc (k*5+4) _ ((rvVs_at xs k 4 x h (by decide)).trans rfl)⟩
structure It where
 r:Rr
 fo:ByteArray
 dt:ByteArray
 out:Bool
def itC(x:It):List Value:=[.string x.r.own,.int .i64 x.r.ty,.int .i64 x.r.cl,.int .i64 x.r.tt,.string x.r.da,.string x.fo,.string x.dt,.bool x.out]
def itCs(l:List It):List Value:=l.flatMap itC
theorem itCs_snoc(l:List It)(x:It):itCs (l++[x])=itCs l++itC x:=by simp [itCs]
theorem itCs_len(l:List It):(itCs l).length=l.length*8:=by
 induction l with
 |nil=>rfl
 |cons x l ih=>
  have e:itCs (x::l)=itC x++itCs l:=by simp [itCs]
  rw [e,List.length_append,ih];simp [itC]
  omega
theorem itCs_at:∀ (xs:List It) (k j:Nat) (x:It),xs[k]? =some x->j<8->(itCs xs)[k*8+j]? =(itC x)[j]? :=by
 intro xs
 induction xs with
 |nil=>intro k j x h;simp at h
 |cons y xs ih=>
  intro k j x h hj;have e:itCs (y::xs)=itC y++itCs xs:=by simp [itCs]
  have hl:(itC y).length=8:=rfl
  cases k with
  |zero=>
   simp at h;subst h
   rw [e,Nat.zero_mul,Nat.zero_add,List.getElem?_append_left (by omega)]
  |succ k=>
   simp at h;rw [e,List.getElem?_append_right (by omega),hl,show(k+1)*8+j-8=k*8+j by omega];exact ih k j x h hj
def hasI(l:List It)(fo:ByteArray)(t:Int):Bool:=l.any fun x=> !x.out&&decide (x.fo=fo)&&decide (x.r.ty=t)
def firstI(p:Nat->It->Bool)(l:List It):Option Nat:=(List.range l.length).find? fun i=>match l[i]? with
 |some x=>p i x
 |none=>false
theorem firstI_at{p:Nat->It->Bool}{l:List It}{k:Nat}{x:It}(hno:∀ i,i<k->∀ y,l[i]? =some y->p i y=false)(hk:l[k]? =some x)(hp:p k x=true):firstI p l=some k:=by
 have hlt:=(List.getElem?_eq_some_iff.1 hk).1;rw [firstI,List.find?_eq_some_iff_getElem];refine⟨by rw [hk];exact hp,k,by simpa using hlt,by simp,fun j hj=>?_⟩;have hjl:j<l.length:=by omega
 simp only [List.getElem_range];rw [List.getElem?_eq_getElem hjl];simp [hno j hj _ (List.getElem?_eq_getElem hjl)]
theorem firstI_no{p:Nat->It->Bool}{l:List It}(hno:∀ i,i<l.length->∀ y,l[i]? =some y->p i y=false):firstI p l=none:=by
 rw [firstI,List.find?_eq_none];intro i hi;simp at hi;rw [List.getElem?_eq_getElem hi];simp [hno i hi _ (List.getElem?_eq_getElem hi)]
def starB(s:ByteArray):Bool:=decide (1<s.size)&&decide (s.extract 0 2=⟨#[1,42]⟩)
def rulesI(l:List It)(fo:ByteArray):Int×Int:=
 match firstI (fun i x=> !x.out&&decide (x.r.ty=6)&&(decide (x.fo≠fo)||hasI (l.take i) fo 6)) l with
 |some i=>(20,i)
 |none=>if !hasI l fo 6 then(20,-1) else if !hasI l fo 2 then(21,-1) else
  match firstI (fun _ x=> !x.out&&starB x.fo&&(decide (x.r.ty=2)||decide (x.r.ty=39))) l with
  |some i=>(26,i)
  |none=>match firstI (fun i x=> !x.out&&(decide (x.r.ty=5)||decide (x.r.ty=39))&&hasI (l.take i) x.fo x.r.ty) l with
   |some i=>(23,i)
   |none=>match firstI (fun _ x=> !x.out&&decide (x.r.ty≠5)&&decide (x.r.ty≠47)&&hasI l x.fo 5) l with
    |some i=>(23,i)
    |none=>match firstI (fun _ x=> !x.out&&l.any fun y=> !y.out&&decide (y.r.ty=39)&&decide (y.fo≠x.fo)&&isUnderS x.fo y.fo) l with
     |some i=>(25,i)
     |none=>(0,0)
def RB(w:World)(g:Nat)(r:Rr):Prop:=w.cell? ⟨g,0,none⟩=some (.string r.own)∧w.cell? ⟨g,1,none⟩=some (.int .i64 r.ty)∧w.cell? ⟨g,2,none⟩=some (.int .i64 r.cl)∧w.cell? ⟨g,3,none⟩=some (.int .i64 r.tt)∧w.cell? ⟨g,4,none⟩=some (.string r.da)
theorem RB.below{w W:World}{g:Nat}{r:Rr}(h:RB w g r)(hb:Below w.heap.size w W):RB W g r:=by
 obtain⟨a,b,c,d,e⟩:=h;have put:∀ {O:Nat} {z:Value},w.cell? ⟨g,O,none⟩=some z->W.cell? ⟨g,O,none⟩=some z:=fun h=>(hb.cell (World.block_lt_of_cell? w _ h)).trans h
 exact⟨put a,put b,put c,put d,put e⟩
theorem RB.new(w:World)(r:Rr)(t:Nat):RB (w.alloc (.cells #[.string r.own,.int .i64 r.ty,.int .i64 r.cl,.int .i64 r.tt,.string r.da] t)) w.heap.size r:=by
 refine⟨?_,?_,?_,?_,?_⟩<;>simp
set_option maxRecDepth 100000 in
set_option maxHeartbeats 400000 in
theorem within_any(n m:Int)(w:World):Calls Tryz.prog 110 #[.int .i64 n,.int .i64 m] w fun e w'=>e=.returned (.bool (decide (0<=n)&&decide (n<=m)))∧w'=w:=by
 by_cases h0:0<=n
 ·by_cases h1:n<=m
  ·have e:(decide (0<=n)&&decide (n<=m))=true:=by simp [h0,h1]
   rw [e];clear e;go_enter Tryz.func110,Tryz.ntmps110;go_wp2;go_ret;exact⟨rfl,rfl⟩
  ·have h1':m<n:=by omega
   have e:(decide (0<=n)&&decide (n<=m))=false:=by simp [h0,h1]
   rw [e];clear e;go_enter Tryz.func110,Tryz.ntmps110;go_wp2;go_ret;exact⟨rfl,rfl⟩
 ·have h0':n<0:=by omega
  have e:(decide (0<=n)&&decide (n<=m))=false:=by simp [h0]
  rw [e];clear e;go_enter Tryz.func110,Tryz.ntmps110;go_wp2;go_ret;exact⟨rfl,rfl⟩
set_option maxRecDepth 100000 in
set_option maxHeartbeats 400000 in
theorem l04In_any(n m:Int)(w:World):Calls Tryz.prog 45 #[.int .i64 n,.int .i64 m] w fun e w'=>e=.returned (.bool (decide (0<=n)&&decide (n<=m)))∧w'=w:=by
 by_cases h0:0<=n
 ·by_cases h1:n<=m
  ·have e:(decide (0<=n)&&decide (n<=m))=true:=by simp [h0,h1]
   rw [e];clear e;go_enter Tryz.func45,Tryz.ntmps45;go_wp2;go_ret;exact⟨rfl,rfl⟩
  ·have h1':m<n:=by omega
   have e:(decide (0<=n)&&decide (n<=m))=false:=by simp [h0,h1]
   rw [e];clear e;go_enter Tryz.func45,Tryz.ntmps45;go_wp2;go_ret;exact⟨rfl,rfl⟩
 ·have h0':n<0:=by omega
  have e:(decide (0<=n)&&decide (n<=m))=false:=by simp [h0]
  rw [e];clear e;go_enter Tryz.func45,Tryz.ntmps45;go_wp2;go_ret;exact⟨rfl,rfl⟩
end Go.Proofs.YtmdinnjimioffaaGreat
namespace Go.Proofs.YtmdinnjimioffaaGreat
open Go.RowKit
def ssum:List ByteArray->Nat
 |[]=>0
 |l::r=>l.size+ssum r
end Go.Proofs.YtmdinnjimioffaaGreat
namespace Go.Proofs.YtmdinnjimioffaaGreat
open Go.RowKit
set_option linter.unusedVariables false
structure Sz where
 own:ByteArray
 ty:Int
 tt:Int
 da:List ByteArray
abbrev Zp:Type:=Sz×Value
def zpV(p:Zp):List Value:=[.string p.1.own,.int .i64 p.1.ty,.int .i64 p.1.tt,p.2]
def zpVs(ps:List Zp):List Value:=ps.flatMap zpV
theorem zpVs_cons(x:Zp)(xs:List Zp):zpVs (x::xs)=zpV x++zpVs xs:=by simp [zpVs]
theorem zpVs_app(a b:List Zp):zpVs (a++b)=zpVs a++zpVs b:=by simp [zpVs]
theorem zpVs_len(xs:List Zp):(zpVs xs).length=xs.length*4:=by
 induction xs with
 |nil=>rfl
 |cons x xs ih=>
  have:(zpV x).length=4:=rfl;rw [zpVs_cons,List.length_append,ih,List.length_cons,this];omega
theorem zpVs_at:∀ (xs:List Zp) (k j:Nat) (x:Zp),xs[k]? =some x->j<4->(zpVs xs)[k*4+j]? =(zpV x)[j]? :=by
 intro xs
 induction xs with
 |nil=>intro k j x h;simp at h
 |cons y xs ih=>
  intro k j x h hj;have hl:(zpV y).length=4:=rfl
  cases k with
  |zero=>
   simp at h;subst h
   rw [zpVs_cons,Nat.zero_mul,Nat.zero_add,List.getElem?_append_left (by omega)]
  |succ k=>
   simp at h;rw [zpVs_cons,List.getElem?_append_right (by omega),hl,show(k+1)*4+j-4=k*4+j by omega];exact ih k j x h hj
theorem zp_cells{w:World}{xs:List Zp}{b off k:Nat}{x:Zp}(hc:∀ (i:Nat) (y:Value),(zpVs xs)[i]? =some y->w.cell? ⟨b,off+i,none⟩=some y)(h:xs[k]? =some x):
 w.cell? ⟨b,off+k*4,none⟩=some (.string x.1.own)∧w.cell? ⟨b,off+k*4+1,none⟩=some (.int .i64 x.1.ty)∧w.cell? ⟨b,off+k*4+2,none⟩=some (.int .i64 x.1.tt)∧w.cell? ⟨b,off+k*4+3,none⟩=some x.2:=
 ⟨hc (k*4) _ ((zpVs_at xs k 0 x h (by decide)).trans rfl),hc (k*4+1) _ ((zpVs_at xs k 1 x h (by decide)).trans rfl),hc (k*4+2) _ ((zpVs_at xs k 2 x h (by decide)).trans rfl),hc (k*4+3) _ ((zpVs_at xs k 3 x h (by decide)).trans rfl)⟩
def ZRow(w:World)(v:Value)(ps:List Zp):Prop:=CRow w v ps.length 4 (zpVs ps)∧∀ p∈ps,Nm.SRow w p.2 p.1.da
theorem ZRow.below{w W:World}{v:Value}{ps:List Zp}(h:ZRow w v ps)(hb:Below w.heap.size w W):ZRow W v ps:=⟨h.1.below hb,fun p hp=>(h.2 p hp).below hb⟩
def zs1(s:Sz):Nat:=s.own.size+(s.da.length+ssum s.da)
def zsum:List Zp->Nat
 |[]=>0
 |x::xs=>zs1 x.1+zsum xs
theorem zsum_mem:∀ (xs:List Zp) (x:Zp),x∈xs->zs1 x.1<=zsum xs:=by
 intro xs
 induction xs with
 |nil=>intro x h;simp at h
 |cons y xs ih=>
  intro x h
  rcases List.mem_cons.1 h with rfl|h
  ·simp only [zsum];omega
  ·have:=ih x h;simp only [zsum];omega
theorem Tryz.infoSet:(Tryz.prog.info? 65).map (fun i=>(i.zero,i.size,i.bytes))=some (some (.agg #[.string ByteArray.empty,.int .i64 0,.int .i64 0,.slice none 0 0]),4,56):=by kernel_rfl
theorem Tryz.infoRRc:(Tryz.prog.info? 33).map (fun i=>(i.zero,i.size,i.bytes))=some (some (.agg #[.string ByteArray.empty,.int .i64 0,.int .i64 0,.int .i64 0,.string ByteArray.empty]),5,56):=by kernel_rfl
end Go.Proofs.YtmdinnjimioffaaGreat
namespace Go.Proofs.YtmdinnjimioffaaGreat
open Go.RowKit
set_option linter.unusedVariables false
theorem rvs_put:∀ (l:List Rr) (j i:Nat) (x y:Rr) (v:Value),l[j]? =some x->i<5->(rvV x).set i v=rvV y->(rvVs l).set (j*5+i) v=rvVs (l.set j y)
 |[],j,i,x,y,v,h,_,_=>by simp at h
 |r::l,0,i,x,y,v,h,hi,e=>by
  simp at h;subst h;have e1:rvVs (r::l)=rvV r++rvVs l:=rfl;have e2:rvVs (y::l)=rvV y++rvVs l:=rfl;have hl:(rvV r).length=5:=rfl
  rw [List.set_cons_zero,e1,e2,Nat.zero_mul,Nat.zero_add,List.set_append_left _ _ (by omega),e]
 |r::l,j+1,i,x,y,v,h,hi,e=>by
  have ih:=rvs_put l j i x y v (by simpa using h) hi e;have e1:rvVs (r::l)=rvV r++rvVs l:=rfl;have e2:rvVs (r::l.set j y)=rvV r++rvVs (l.set j y):=rfl;have hl:(rvV r).length=5:=rfl;rw [List.set_cons_succ,e1,e2,List.set_append_right _ _ (by omega),hl,show(j+1)*5+i-5=j*5+i by omega,ih]
structure Only (p:Nat) (w w':World):Prop where
 os:w'.os=w.os
 tape:w'.tape=w.tape
 output:w'.output=w.output
 size:w.heap.size<=w'.heap.size
 block:∀ k,k<w.heap.size->k≠p->w'.heap[k]? =w.heap[k]?
def RowB(w:World)(a:Option Addr)(len cap:Nat)(zs:List Int):Prop:=
 (a=none∧len=0∧cap=0∧zs=[])∨
 ∃ x,a=some x∧len<=cap∧cap<=maxLen∧zs.length=cap∧(∀ i,i<zs.length->w.cell? (x.add i)=some (.int .u8 (zs.getD i 0)))∧∀ n∈zs,(Lit.int .u8 n).wf=true
theorem u8_wf{z:Int}(h:(Lit.int .u8 z).wf=true):((UInt8.ofNat z.toNat).toNat:Int)=z:=by
 have h2:=bounds_u8 h;simp
 omega
theorem rowB{w:World}{a:Option Addr}{n cap:Nat}{zs:List Int}(h:RowB w a n cap zs):∃ l:List UInt8,l.length=n∧CRow w (.slice a n cap) n 1 (Nm.bys l):=by
 rcases h with⟨rfl,rfl,rfl,rfl⟩|⟨x,rfl,hl,hm,hz,hc,hw⟩
 ·exact⟨[],rfl,rfl,none,0,rfl,Nat.le_refl _,by decide,fun h=>by omega⟩
 ·have hlen:((zs.take n).map (fun z=>UInt8.ofNat z.toNat)).length=n:=by simp;omega
  refine⟨(zs.take n).map (fun z=>UInt8.ofNat z.toNat),hlen,by rw [Nm.bys_length,hlen,Nat.mul_one],some x,cap,rfl,hl,hm,fun hp=>?_⟩
  have hs:x.spot=none:=by
   have:=World.cell?_spot (hc 0 (by omega));simpa [Addr.add] using this
  obtain⟨b,off,sp⟩:=x;simp only at hs
  subst hs;refine⟨b,off,rfl,fun i y hy=>?_⟩
  have hi:i<n:=by
   have:=(List.getElem?_eq_some_iff.1 hy).1
   rwa [Nm.bys_length,hlen] at this
  rw [<- Nm.addr_add,hc i (by omega),<- hy];have hz:zs[i]? =some (zs.getD i 0):=by rw [List.getD_eq_getElem?_getD,List.getElem?_eq_getElem (by omega)];rfl
  rw [Nm.bys,List.getElem?_map,List.getElem?_map,List.getElem?_take,if_pos hi,hz];simp only [Option.map_some];rw [u8_wf (hw _ (List.mem_of_getElem? hz))]
theorem Tryz.infoBy:(Tryz.prog.info? 5).map (fun i=>(i.zero,i.size,i.bytes))=some (some (.int .u8 0),1,1):=by kernel_rfl
abbrev BySl(w:World)(v:Value)(l:List UInt8):Prop:=CRow w v l.length 1 (Nm.bys l)
end Go.Proofs.YtmdinnjimioffaaGreat
