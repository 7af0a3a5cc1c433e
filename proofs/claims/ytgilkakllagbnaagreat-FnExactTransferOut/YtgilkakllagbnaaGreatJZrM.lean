import Derived.Test.YtgilkakllagbnaaGreatJZnM
import Derived.Test.YtgilkakllagbnaaGreatJRrM
import Derived.Test.YtgilkakllagbnaaGreatJOwnT
import Derived.Test.YtgilkakllagbnaaGreatJClone
import Derived.Test.YtgilkakllagbnaaGreatJMath
import Derived.Deep.QuietTactic
import Derived.BigQuiet
import Derived.RangeFuncNested
import Derived.RangeFuncBound
import Derived.RangeFuncCalls
import Derived.RangeFuncLeaves
import Derived.Shelf.Abstract
import Derived.Shelf.RegionOpen
import Derived.WalkKit
import Derived.OwnWalkIn
import Derived.TacticsInMore
import Derived.LoopNIn
import Derived.LoopIn
import Derived.Test.YtgilkakllagbnaaGreatJZnT
import Derived.RegionTactic
import Derived.BigRegion
import Derived.Test.YtgilkakllagbnaaGreatDlM
import Derived.Test.YtgilkakllagbnaaGreatJStI
import Derived.Maps.AppendAt
import Derived.Deep.Slices
import Derived.Deep.Strs
import Derived.ChangeSame
namespace Go.Proofs.YtgilkakllagbnaaGreat
open Go.RowKit
set_option linter.unusedVariables false
def recsOf(s:Sz):List Rr:=s.da.map fun d=>⟨s.own,s.ty,1,s.tt,d⟩
def recsAll(ps:List Zp):List Rr:=ps.flatMap fun p=>recsOf p.1
def dsum:List Zp->Nat
 |[]=>0
 |x::xs=>x.1.da.length+dsum xs
def zoneRecs(ps:List Zp):List Rr:=if 500<ps.length∨500<dsum ps then [] else recsAll ps
theorem recsOf_len(s:Sz):(recsOf s).length=s.da.length:=by simp [recsOf]
theorem recsOf_get{s:Sz}{k:Nat}{d:ByteArray}(h:s.da[k]? =some d):(recsOf s).take (k+1)=(recsOf s).take k++[⟨s.own,s.ty,1,s.tt,d⟩]:=by
 rw [List.take_add_one];congr 1;simp [recsOf,h]
theorem dsum_step:∀ (xs:List Zp) (k:Nat) (x:Zp),xs[k]? =some x->dsum (xs.take (k+1))=dsum (xs.take k)+x.1.da.length:=by
 intro xs
 induction xs with
 |nil=>intro k x h;simp at h
 |cons y xs ih=>
  intro k x h
  cases k with
  |zero=>simp at h;subst h;simp [dsum]
  |succ k=>
   simp at h;have:=ih k x h;simp only [List.take_succ_cons,dsum];omega
theorem dsum_take_le:∀ (xs:List Zp) (k:Nat),dsum (xs.take k)<=dsum xs:=by
 intro xs
 induction xs with
 |nil=>intro k;simp [dsum]
 |cons y xs ih=>
  intro k
  cases k with
  |zero=>simp [dsum]
  |succ k=>have:=ih k;simp only [List.take_succ_cons,dsum];omega
theorem dsum_le(ps:List Zp):dsum ps<=zsum ps:=by
 induction ps with
 |nil=>simp [dsum,zsum]
 |cons y ps ih=>simp only [dsum,zsum,zs1];omega
theorem recsAll_step{ps:List Zp}{k:Nat}{x:Zp}(h:ps[k]? =some x):recsAll (ps.take (k+1))=recsAll (ps.take k)++recsOf x.1:=by
 rw [List.take_add_one,h];simp [recsAll]
theorem recsAll_len(ps:List Zp):(recsAll ps).length=dsum ps:=by
 induction ps with
 |nil=>rfl
 |cons y ps ih=>
  have:recsAll (y::ps)=recsOf y.1++recsAll ps:=by simp [recsAll]
  rw [this,List.length_append,recsOf_len,ih,dsum]
theorem zoneRecs_same{ps qs:List Zp}(h:qs.map (·.1)=ps.map (·.1)):zoneRecs qs=zoneRecs ps:=by
 have hl:qs.length=ps.length:=by have:=congrArg List.length h;simpa using this
 have e1:∀ xs:List Zp,recsAll xs=(xs.map (·.1)).flatMap recsOf:=by intro xs;simp [recsAll,List.flatMap_map]
 have e2:∀ xs:List Zp,dsum xs=((xs.map (·.1)).map fun s=>s.da.length).sum:=by
  intro xs
  induction xs with
  |nil=>rfl
  |cons y xs ih=>simp only [dsum,List.map_cons,List.sum_cons,ih]
 unfold zoneRecs;rw [hl,e2 qs,e2 ps,h,e1 qs,e1 ps,h]
theorem rv_one(r:Rr):∀ u∈rvV r,u.oneCell'=true:=by
 intro u hu;simp [rvV] at hu
 rcases hu with rfl|rfl|rfl|rfl|rfl<;>rfl
theorem rvs_one(xs:List Rr):∀ u∈rvVs xs,u.oneCell'=true:=by
 intro u hu;simp only [rvVs,List.mem_flatMap] at hu;obtain⟨r,_,h⟩:=hu;exact rv_one r u h
theorem cell_newV(w:World)(cs:Array Value)(e:Nat):∀ (j:Nat) (u:Value),cs.toList[j]? =some u->(w.alloc (.cells cs e)).cell? ((⟨w.heap.size,0,none⟩:Addr).add j)=some u:=by
 intro j u h;rw [Nm.addr_add,Nat.zero_add];have:(w.alloc (.cells cs e)).heap[w.heap.size]? =some (.cells cs e (0,0)):=by show(w.heap.push _)[w.heap.size]? =_;simp
 rw [cell_of_row _ _ _ _ _ _ this];simpa using h
end Go.Proofs.YtgilkakllagbnaaGreat
namespace Go.Proofs.YtgilkakllagbnaaGreat
open Go.RowKit
theorem bless_self:∀ l:List UInt8,Op.bytesLess l l=false:=by
 intro l
 induction l with
 |nil=>rfl
 |cons x l ih=>simp [Op.bytesLess,ih]
theorem ordL_zero(a b:List UInt8):Nm.ordL a b=0↔a=b:=by
 constructor
 ·intro h
  by_cases h1:Op.bytesLess a b=true
  ·rw [Nm.ordL,if_pos h1] at h;omega
  ·rw [Nm.ordL,if_neg h1] at h
   by_cases h2:a=b
   ·exact h2
   ·rw [if_neg h2] at h;omega
 ·intro h;subst h;rw [Nm.ordL,if_neg (by simp [bless_self]),if_pos rfl]
def sameS(a b:ByteArray):Bool:=(Nm.split a).isSome&&(Nm.split b).isSome&&decide (Nm.ordS a b=0)
theorem same_left{a b:ByteArray}(h:Nm.split a=none):sameS a b=false:=by simp [sameS,h]
theorem same_right{a b:ByteArray}(h:Nm.split b=none):sameS a b=false:=by simp [sameS,h]
theorem same_some{a b:ByteArray}{xs ys:List ByteArray}(ha:Nm.split a=some xs)(hb:Nm.split b=some ys):sameS a b=decide (Nm.ordS a b=0):=by simp [sameS,ha,hb]
theorem small_pos{a:ByteArray}{xs:List ByteArray}(h:Nm.split a=some xs):(Nm.small a).toList.isEmpty=false:=by
 apply Nm.tl_not_empty;rw [Nm.small_size];have:=Nm.split_size h;omega
theorem small_eq(a b:ByteArray):((Nm.small a).toList==(Nm.small b).toList)=decide (Nm.ordS a b=0):=by
 rw [Bool.eq_iff_iff];simp only [beq_iff_eq,decide_eq_true_eq,Nm.ordS,ordL_zero];rw [ByteArray.toList_eq,ByteArray.toList_eq,Nm.small_data,Nm.small_data]
end Go.Proofs.YtgilkakllagbnaaGreat
namespace Go.Proofs.YtgilkakllagbnaaGreat
open Go.RowKit
set_option linter.unusedVariables false
structure GSe where
 blk:Nat
 hd:Nat
 rv:Value
 ty:Int
 tt:Int
 fi:Nat
 da:List (ByteArray×ByteArray)
structure GOw where
 blk:Nat
 hd:Nat
 rv:Value
 lv:Value
 lab:List ByteArray
 nm:ByteArray
 ss:List GSe
def ptr(b:Nat):Value:=.pointer (some ⟨b,0,none⟩)
def daRs(l:List (ByteArray×ByteArray)):List (Value×Value):=l.map fun p=>(.string p.1,.string p.2)
def seRs(l:List GSe):List (Value×Value):=l.map fun s=>(.int .i64 s.ty,ptr s.blk)
def owRs(l:List GOw):List (Value×Value):=l.map fun o=>(o.lv,ptr o.blk)
def cmpSv:Value:=.func (.func 163) #[] #[]
def cmpIv:Value:=.func (.func 159) #[] #[]
def cmpLv:Value:=.func (.func 130) #[] #[]
def fpS(s:GSe):List Nat:=s.blk::s.hd::s.rv.ownBlock.toList
def fpO(o:GOw):List Nat:=o.blk::o.hd::(o.rv.ownBlock.toList++o.ss.flatMap fpS)
def fpT(th:Nat)(rv:Value)(os:List GOw):List Nat:=th::(rv.ownBlock.toList++os.flatMap fpO)
structure SeAt (w:World) (B:Nat) (s:GSe):Prop where
 node:Blk w s.blk #[.int .i64 s.tt,.int .i64 (s.fi:Int),ptr s.hd] 180
 head:Blk w s.hd #[cmpSv,s.rv] 247
 rows:w.ownsRow B 250 2 s.rv (daRs s.da).length (rowCs (daRs s.da))
structure OwAt (w:World) (B:Nat) (o:GOw):Prop where
 node:Blk w o.blk #[.string o.nm,o.lv,ptr o.hd] 158
 head:Blk w o.hd #[cmpIv,o.rv] 198
 rows:w.ownsRow B 200 2 o.rv (seRs o.ss).length (rowCs (seRs o.ss))
 sets:∀ s∈o.ss,SeAt w B s
structure TrAt (w:World) (B th:Nat) (rv:Value) (os:List GOw):Prop where
 head:Blk w th #[cmpLv,rv] 191
 rows:w.ownsRow B 193 2 rv (owRs os).length (rowCs (owRs os))
 owners:∀ o∈os,OwAt w B o
 nodup:(fpT th rv os).Nodup
theorem blk_keep{w w':World}{b:Nat}{cs:Array Value}{T:TypeId}(h:Blk w b cs T)(he:w'.heap[b]? =w.heap[b]?):Blk w' b cs T:=he.trans h
theorem own_keep{w w':World}{B e s n:Nat}{v:Value}{xs:List Value}(h:w.ownsRow B e s v n xs)(he:∀ b∈v.ownBlock.toList,w'.heap[b]? =w.heap[b]?):w'.ownsRow B e s v n xs:=by
 refine⟨h.1,?_⟩
 rcases h.2 with h0|⟨q,cap,cur,rfl,hb,hh,r⟩
 ·exact .inl h0
 ·exact .inr ⟨q,cap,cur,rfl,hb,(he q (by simp [Value.ownBlock])).trans hh,r⟩
theorem SeAt.keep{w w':World}{B:Nat}{s:GSe}(h:SeAt w B s)(he:∀ b∈fpS s,w'.heap[b]? =w.heap[b]?):SeAt w' B s:=
 ⟨blk_keep h.node (he _ (by simp [fpS])),blk_keep h.head (he _ (by simp [fpS])),own_keep h.rows (fun b hb=>he b (by simp only [fpS,List.mem_cons];exact .inr (.inr hb)))⟩
theorem OwAt.keep{w w':World}{B:Nat}{o:GOw}(h:OwAt w B o)(he:∀ b∈fpO o,w'.heap[b]? =w.heap[b]?):OwAt w' B o:=
 ⟨blk_keep h.node (he _ (by simp [fpO])),blk_keep h.head (he _ (by simp [fpO])),own_keep h.rows (fun b hb=>he b (by simp only [fpO,List.mem_cons,List.mem_append];exact .inr (.inr (.inl hb)))),
  fun s hs=>(h.sets s hs).keep (fun b hb=>he b (by simp only [fpO,List.mem_cons,List.mem_append,List.mem_flatMap];exact .inr (.inr (.inr ⟨s,hs,hb⟩))))⟩
theorem TrAt.keep{w w':World}{B th:Nat}{rv:Value}{os:List GOw}(h:TrAt w B th rv os)(he:∀ b∈fpT th rv os,w'.heap[b]? =w.heap[b]?):TrAt w' B th rv os:=
 ⟨blk_keep h.head (he _ (by simp [fpT])),own_keep h.rows (fun b hb=>he b (by simp only [fpT,List.mem_cons,List.mem_append];exact .inr (.inl hb))),
  fun o ho=>(h.owners o ho).keep (fun b hb=>he b (by simp only [fpT,List.mem_cons,List.mem_append,List.mem_flatMap];exact .inr (.inr ⟨o,ho,hb⟩))),h.nodup⟩
theorem own_lt{w:World}{B e s n:Nat}{v:Value}{xs:List Value}(h:w.ownsRow B e s v n xs):∀ b∈v.ownBlock.toList,b<w.heap.size:=by
 intro b hb
 cases hv:v.ownBlock with
 |none=>rw [hv] at hb;simp at hb
 |some q=>
  rw [hv] at hb;simp at hb;subst hb;exact(h.lt _ hv).2
theorem SeAt.lt{w:World}{B:Nat}{s:GSe}(h:SeAt w B s):∀ b∈fpS s,b<w.heap.size:=by
 intro b hb;simp only [fpS,List.mem_cons] at hb
 rcases hb with rfl|rfl|hb
 ·exact blk_lt h.node
 ·exact blk_lt h.head
 ·exact own_lt h.rows b hb
theorem OwAt.lt{w:World}{B:Nat}{o:GOw}(h:OwAt w B o):∀ b∈fpO o,b<w.heap.size:=by
 intro b hb;simp only [fpO,List.mem_cons,List.mem_append,List.mem_flatMap] at hb
 rcases hb with rfl|rfl|hb|⟨s,hs,hb⟩
 ·exact blk_lt h.node
 ·exact blk_lt h.head
 ·exact own_lt h.rows b hb
 ·exact(h.sets s hs).lt b hb
theorem TrAt.lt{w:World}{B th:Nat}{rv:Value}{os:List GOw}(h:TrAt w B th rv os):∀ b∈fpT th rv os,b<w.heap.size:=by
 intro b hb;simp only [fpT,List.mem_cons,List.mem_append,List.mem_flatMap] at hb
 rcases hb with rfl|hb|⟨o,ho,hb⟩
 ·exact blk_lt h.head
 ·exact own_lt h.rows b hb
 ·exact(h.owners o ho).lt b hb
theorem TrAt.below{w w':World}{B th:Nat}{rv:Value}{os:List GOw}(h:TrAt w B th rv os)(hb:Below w.heap.size w w'):TrAt w' B th rv os:=
 h.keep (fun b hm=>hb.block b (h.lt b hm))
structure Outs (fp:List Nat) (w w':World):Prop where
 os:w'.os=w.os
 tape:w'.tape=w.tape
 output:w'.output=w.output
 size:w.heap.size<=w'.heap.size
 block:∀ k,k<w.heap.size->k∉fp->w'.heap[k]? =w.heap[k]?
theorem Outs.below{fp:List Nat}{w w':World}(h:Below w.heap.size w w'):Outs fp w w':=⟨h.os,h.tape,h.output,h.size,fun k hk _=>h.block k hk⟩
theorem Outs.trans{fp fp':List Nat}{w w1 w2:World}(h:Outs fp w w1)(h2:Outs fp' w1 w2)(hs:∀ k∈fp',k∈fp∨w.heap.size<=k):Outs fp w w2:=
 ⟨h2.os.trans h.os,h2.tape.trans h.tape,h2.output.trans h.output,Nat.le_trans h.size h2.size,fun k hk hn=>by
  rw [h2.block k (Nat.lt_of_lt_of_le hk h.size) (fun hm=>by rcases hs k hm with h1|h1;exact hn h1;omega)]
  exact h.block k hk hn⟩
theorem Outs.wide{fp fp':List Nat}{w w':World}(h:Outs fp w w')(hs:∀ k∈fp,k∈fp'):Outs fp' w w':=⟨h.os,h.tape,h.output,h.size,fun k hk hn=>h.block k hk (fun hm=>hn (hs k hm))⟩
end Go.Proofs.YtgilkakllagbnaaGreat
namespace Go.Proofs.YtgilkakllagbnaaGreat
open Go.RowKit
set_option maxRecDepth 100000 in
set_option maxHeartbeats 400000 in
theorem cmpByte_any(a b:UInt8)(w:World):
 Calls Tryz.prog 172 #[.int .u8 a.toNat,.int .u8 b.toNat] w fun e w'=>e=.returned (.int .i64 (Nm.cmpI a.toNat b.toNat))∧w'=w:=by
 have ha:((a.toNat:Int) != (a.toNat:Int))=false:=by simp
 have hb:((b.toNat:Int) != (b.toNat:Int))=false:=by simp
 by_cases h1:(a.toNat:Int)<(b.toNat:Int)
 ·have HC:=Nm.hide (Nm.cmpI_lt h1);have d1:decide ((a.toNat:Int)<(b.toNat:Int))=true:=by simpa using h1
  go_enter Tryz.func172,Tryz.ntmps172;go_wp2;go_ret;rw [HC.out];exact⟨rfl,rfl⟩
 ·have d1:decide ((a.toNat:Int)<(b.toNat:Int))=false:=by simpa using h1
  by_cases h2:(b.toNat:Int)<(a.toNat:Int)
  ·have HC:=Nm.hide (Nm.cmpI_gt h2);have d2:decide ((b.toNat:Int)<(a.toNat:Int))=true:=by simpa using h2
   go_enter Tryz.func172,Tryz.ntmps172;go_wp2;go_ret;rw [HC.out];exact⟨rfl,rfl⟩
  ·have HC:=Nm.hide (Nm.cmpI_eq (show(a.toNat:Int)=(b.toNat:Int) by omega));have d2:decide ((b.toNat:Int)<(a.toNat:Int))=false:=by simpa using h2
   go_enter Tryz.func172,Tryz.ntmps172;go_wp2;go_ret;rw [HC.out];exact⟨rfl,rfl⟩
set_option maxRecDepth 100000 in
set_option maxHeartbeats 400000 in
theorem cmpInt_any(a b:Int)(w:World):
 Calls Tryz.prog 153 #[.int .i64 a,.int .i64 b] w fun e w'=>e=.returned (.int .i64 (Nm.cmpI a b))∧w'=w:=by
 have ha:(a != a)=false:=by simp
 have hb:(b != b)=false:=by simp
 by_cases h1:a<b
 ·have HC:=Nm.hide (Nm.cmpI_lt h1);go_enter Tryz.func153,Tryz.ntmps153;go_wp2;go_ret;rw [HC.out];exact⟨rfl,rfl⟩
 ·by_cases h2:b<a
  ·have HC:=Nm.hide (Nm.cmpI_gt h2);go_enter Tryz.func153,Tryz.ntmps153;go_wp2;go_ret;rw [HC.out];exact⟨rfl,rfl⟩
  ·have HC:=Nm.hide (Nm.cmpI_eq (show a=b by omega));go_enter Tryz.func153,Tryz.ntmps153;go_wp2;go_ret;rw [HC.out];exact⟨rfl,rfl⟩
set_option maxRecDepth 100000 in
set_option maxHeartbeats 800000 in
theorem compareFolded_any(a b:ByteArray)(w:World)(ha:a.size<=1000000000):
 Calls Tryz.prog 152 #[.string a,.string b] w fun e w'=>e=.returned (.int .i64 (Nm.ordS a b))∧∃ m,w'=w.drewN m:=by
 go_enter Tryz.func152,Tryz.ntmps152;go_wp2
 go_loopw [5] (fun i wr=>∃ k:Nat,k<=a.size∧k<=b.size∧i=.int .i64 k∧Hid ((Nm.smallL a.data.toList).take k=(Nm.smallL b.data.toList).take k)∧∃ m,Hid (wr=w.drewN m))
  (fun i _=>a.size-(intOf i).toNat)
 case atStart=>exact⟨0,Nat.zero_le _,Nat.zero_le _,rfl,by show _=_;simp,0,rfl⟩
 case round=>
  obtain⟨k,hka,hkb,rfl,HT,m,HW⟩:=hrel
  by_cases h1:k<a.size∧k<b.size
  ·obtain⟨h1,h2⟩:=h1;have d1:decide ((k:Int)<(a.size:Int))=true:=by simp;omega
   have d2:decide ((k:Int)<(b.size:Int))=true:=by simp;omega
   have i1:(k:Int)<(a.size:Int):=by omega
   have i2:(k:Int)<(b.size:Int):=by omega
   by_cases he:Nm.low a[k]=Nm.low b[k]
   ·have HN:Hid ((Nm.smallL a.data.toList).take (k+1)=(Nm.smallL b.data.toList).take (k+1)):=Nm.take_snoc_eq HT.out (Nm.small_get h1) (Nm.small_get h2) he;have hc:(Nm.cmpI (Nm.low a[k]).toNat (Nm.low b[k]).toNat != 0)=false:=by rw [Nm.cmpI_eq (by rw [he])];rfl
    clear he;go_wp2;go_quiet (first|(go_at_call 173;exact Calls.quiet_of_same (foldByte_any _ _))|(go_at_call 172;exact Calls.quiet_of_same (cmpByte_any _ _ _)))
    go_wp2;go_roundw
    case rel=>exact⟨k+1,by omega,by omega,by go_num,HN,_,by show _=_;rw [HW.out,World.drewN_drewN]⟩
    case measure=>simp [intOf];omega
   ·have HO:Hid (Nm.ordS a b=Nm.cmpI (Nm.low a[k]).toNat (Nm.low b[k]).toNat):=Nm.ord_at k _ _ _ _ HT.out (Nm.small_get h1) (Nm.small_get h2) he
    have hc:(Nm.cmpI (Nm.low a[k]).toNat (Nm.low b[k]).toNat != 0)=true:=by
     rw [bne_iff_ne];exact Nm.cmpI_ne (fun e=>he (UInt8.toNat_inj.1 (by omega)))
    clear he;go_wp2;go_quiet (first|(go_at_call 173;exact Calls.quiet_of_same (foldByte_any _ _))|(go_at_call 172;exact Calls.quiet_of_same (cmpByte_any _ _ _)))
    go_wp2;go_ret;rw [HO.out];exact⟨rfl,_,by rw [HW.out,World.drewN_drewN]⟩
  ·have HO:Hid (Nm.ordS a b=Nm.cmpI a.size b.size):=by
    show _=_
    have:=Nm.ord_end k _ _ HT.out (by rw [Nm.smallL_length];omega) (by rw [Nm.smallL_length];omega) (by rw [Nm.smallL_length,Nm.smallL_length];omega);rw [Nm.smallL_length,Nm.smallL_length] at this;exact this
   by_cases h2:k<a.size
   ·have g2:b.size<=k:=by omega
    have d2:decide (k<b.size)=false:=by simp;omega
    clear h1;go_wp2_with fail
    refine(cmpInt_any _ _ _).mono ?_;rintro e w3 ⟨rfl,rfl⟩;go_wp2;go_ret;rw [HO.out];exact⟨rfl,_,HW.out⟩
   ·have g2:a.size<=k:=by omega
    have d2:decide (k<a.size)=false:=by simp;omega
    clear h1;go_wp2_with fail
    refine(cmpInt_any _ _ _).mono ?_;rintro e w3 ⟨rfl,rfl⟩;go_wp2;go_ret;rw [HO.out];exact⟨rfl,_,HW.out⟩
end Go.Proofs.YtgilkakllagbnaaGreat
namespace Go.Proofs.YtgilkakllagbnaaGreat
open Go.RowKit
theorem nok_true{s:ByteArray}(h:(Nm.split s).isSome=true):Dt.sz .nm s=some s.size:=by
 obtain⟨h1,h2⟩:=(Dt.name_iff s).1 h;rw [Dt.sz,if_neg h1,h2]
theorem nok_false{s:ByteArray}(h:(Nm.split s).isSome=false):Dt.sz .nm s=none∨∃ n,Dt.sz .nm s=some n∧n≠s.size:=by
 by_cases h0:(Dt.nameAtS s).size=0
 ·left;rw [Dt.sz,if_pos h0]
 ·right;refine⟨_,by rw [Dt.sz,if_neg h0],?_⟩;intro e;rw [(Dt.name_iff s).2 ⟨h0,e⟩] at h;simp at h
set_option maxRecDepth 100000 in
set_option maxHeartbeats 400000 in
theorem implNameOK_same(s:ByteArray)(w:World):
 Calls Tryz.prog 151 #[.string s] w fun e w'=>e=.returned (.bool (Nm.split s).isSome)∧w'=w:=by
 have hcall:=nameSize_any s
 cases hq:(Nm.split s).isSome with
 |true=>
  rw [nok_true hq] at hcall;simp only [szV,Option.getD_some,Option.isSome_some] at hcall;clear hq;go_enter Tryz.func151,Tryz.ntmps151;go_wp2_with (go_at_call 171;refine(hcall _).mono ?_;rintro e w1 ⟨rfl,rfl⟩)
  go_ret
  exact⟨rfl,rfl⟩
 |false=>
  rcases nok_false hq with h|⟨n,h,hn⟩
  ·rw [h] at hcall;simp only [szV,Option.getD_none,Option.isSome_none] at hcall;clear hq h;go_enter Tryz.func151,Tryz.ntmps151;go_wp2_with (go_at_call 171;refine(hcall _).mono ?_;rintro e w1 ⟨rfl,rfl⟩)
   go_ret;exact⟨rfl,rfl⟩
  ·rw [h] at hcall;simp only [szV,Option.getD_some,Option.isSome_some] at hcall;have hb:((n:Int)==(s.size:Int))=false:=by rw [beq_eq_false_iff_ne];omega
   have hb2:(n==s.size)=false:=by rw [beq_eq_false_iff_ne];omega
   clear hq h;go_enter Tryz.func151,Tryz.ntmps151;go_wp2_with (go_at_call 171;refine(hcall _).mono ?_;rintro e w1 ⟨rfl,rfl⟩)
   go_ret;exact⟨rfl,rfl⟩
end Go.Proofs.YtgilkakllagbnaaGreat
namespace Go.Proofs.YtgilkakllagbnaaGreat
open Go.RowKit Go.Shelf
set_option linter.unusedVariables false
attribute [local go_sem] Oper.semAt_some
set_option maxRecDepth 100000 in
set_option maxHeartbeats 2000000 in
theorem all1S_in{α:Type}(kf vf:α->ByteArray)(F:Fence)(n:Nat)(h7:F.fn 185)(hro:F.round=none)(hn:1<=n)(l tb g n₀ b off cap:Nat)(cmpv:Value)(zs:List α)(hl:zs.length<=1000000)(hcap:zs.length<=cap∧cap<=maxLen)(hb:b<n₀)(J Jx:List α->World->Prop)
 (hJ:∀ s W W',J s W->W.grownBy W' none->J s W')
 (hY:∀ pre x W,J pre W->pre.length<zs.length->YieldAt F (n-1) Tryz.prog l #[(Value.string (kf x)),(Value.string (vf x))] W fun e W'=>
  (e=.returned (.bool true)∧J (pre++[x]) W'∧Below n₀ W W')∨(e=.returned (.bool false)∧Jx (pre++[x]) W'))
 (W:World) (kb:W.cell? ⟨tb,0,none⟩=some (.pointer (some ⟨g,0,none⟩))) (kg:W.cell? ⟨g,1,none⟩=some (.slice (some ⟨b,off,none⟩) zs.length cap))
 (hc:∀ (i:Nat) (x:α),zs[i]? =some x->W.cell? ⟨b,off+i*2,none⟩=some (Value.string (kf x))∧W.cell? ⟨b,off+i*2+1,none⟩=some (Value.string (vf x))) (hn₀:n₀<=W.heap.size) (h0:J [] W):
 CallsIn F n Tryz.prog 185 #[.func (.yield l) #[] #[],.pointer (some ⟨tb,0,none⟩)] W fun e W'=>(∃ v,e=.returned v)∧
  ((∃ ys,ys=zs∧J ys W')∨(∃ pre,pre<+:zs∧Jx pre W')):=by
 obtain⟨hcap1,hcap2⟩:=hcap;unfold maxLen at hcap2;refine callsIn_of_wp Tryz.func185 rfl h7 ?_ hro;simp only [Tryz.ntmps185,List.size_toArray,List.length_cons,List.length_nil,Nat.reduceAdd,Nat.reduceSub,Array.replicate_succ,Array.replicate_zero,List.push_toArray,List.append_toArray,List.nil_append,List.cons_append]
 gi_wp2
 gi_loopw [10] (fun i wr=>∃ k:Nat,k<=zs.length∧i=.int .i64 k∧J (zs.take k) wr∧Below n₀ W wr)
  (fun i _=>zs.length-(intOf i).toNat)
 case atStart=>exact⟨0,Nat.zero_le _,rfl,by simpa using h0,Below.refl _ _⟩
 case round=>
  obtain⟨k,hk,rfl,hJs,hnx⟩:=hrel
  by_cases hlt:k<zs.length
  ·obtain⟨x,hx⟩:∃ x,zs[k]? =some x:=⟨_,List.getElem?_eq_getElem hlt⟩;obtain⟨c0,c1⟩:=hc k x hx;have d0:wr.cell? ⟨b,off+k*2,none⟩=some (Value.string (kf x)):=(hnx.cell (p:=⟨b,off+k*2,none⟩) hb).trans c0;have d1:wr.cell? ⟨b,off+k*2+1,none⟩=some (Value.string (vf x)):=(hnx.cell (p:=⟨b,off+k*2+1,none⟩) hb).trans c1;have hal:∀ o:Obj,wr.grownBy (wr.alloc o) none:=fun o=>⟨rfl,rfl,rfl,by simp,fun q hq _=>heap_alloc_old wr _ hq⟩
   obtain⟨fn,tmps,assign,body,hy,hR⟩:=hY _ x (wr.alloc (.cells #[(Value.string (kf x)),(Value.string (vf x))] 250)) (hJ _ _ _ hJs (hal _)) (by rw [List.length_take];omega);have n1:(0:Int)<=(k:Int):=by omega
   have n2:(k:Int)<(zs.length:Int):=by omega
   have hbw:Below n₀ W (wr.alloc (.cells #[(Value.string (kf x)),(Value.string (vf x))] 250)):=hnx.alloc (Nat.le_trans hn₀ hnx.size) _
   have HT:Hid (zs.take (k+1)=zs.take k++[x]):=by
    obtain⟨hk',e⟩:=List.getElem?_eq_some_iff.1 hx;show _=_
    rw [List.take_succ_eq_append_getElem hk',e]
   clear hc c0 c1 hx
   gi_wp2
   refine hR.mono ?_;rintro e W3 (⟨rfl,hJ3,hk3⟩|⟨rfl,hJx3⟩)
   ·gi_wp2
    go_roundw
    case rel=>exact⟨k+1,by omega,by go_num,by rw [HT.out];exact hJ3,hbw.trans hk3⟩
    case measure=>simp [intOf];omega
   ·gi_wp2
    refine bodyPost_ret (results_none rfl _ _ _) rfl ?_;exact⟨⟨_,rfl⟩,.inr ⟨_,by rw [<- HT.out];exact List.take_prefix _ _,hJx3⟩⟩
  ·obtain rfl:k=zs.length:=by omega
   have n2:(zs.length:Int)<=(zs.length:Int):=by omega
   rw [List.take_length] at hJs;clear hc
   gi_wp2
   go_end0
   exact⟨⟨_,rfl⟩,.inl ⟨_,rfl,hJs⟩⟩
end Go.Proofs.YtgilkakllagbnaaGreat
namespace Go.Proofs.YtgilkakllagbnaaGreat
open Go.RowKit Go.Shelf
set_option linter.unusedVariables false
attribute [local go_sem] Oper.semAt_some
def RwsS{α:Type}(kf vf:α->ByteArray)(n₀:Nat)(W:World)(sv:Value)(zs:List α):Prop:=
 (sv=.slice none 0 0∧zs=[])∨∃ b off cap,sv=.slice (some ⟨b,off,none⟩) zs.length cap∧b<n₀∧(zs.length<=cap∧cap<=maxLen)∧
  ∀ (i:Nat) (x:α),zs[i]? =some x->W.cell? ⟨b,off+i*2,none⟩=some (Value.string (kf x))∧W.cell? ⟨b,off+i*2+1,none⟩=some (Value.string (vf x))
theorem RwsS.below{α:Type}{kf vf:α->ByteArray}{n₀:Nat}{W W':World}{sv:Value}{zs:List α}(h:RwsS kf vf n₀ W sv zs)(hB:Below n₀ W W'):RwsS kf vf n₀ W' sv zs:=by
 rcases h with h|⟨b,off,cap,e,hb,hcp,hc⟩
 ·exact .inl h
 ·exact .inr ⟨b,off,cap,e,hb,hcp,fun i x hx=>⟨(hB.cell (p:=⟨b,off+i*2,none⟩) hb).trans (hc i x hx).1,(hB.cell (p:=⟨b,off+i*2+1,none⟩) hb).trans (hc i x hx).2⟩⟩
theorem rwsS_own{α:Type}(kf vf:α->ByteArray){w:World}{B e:Nat}{v:Value}(zs:List α)(h:w.ownsRow B e 2 v zs.length (rowCs (zs.map fun x=>((Value.string (kf x)),(Value.string (vf x)))))):RwsS kf vf w.heap.size w v zs:=by
 have h':=h
 rcases h.2 with⟨rfl,h0⟩|⟨q,cap,cur,rfl,hb,hh,hc1,hc2,hcs,ht⟩
 ·exact .inl ⟨rfl,List.length_eq_zero_iff.1 h0⟩
 ·refine .inr ⟨q,0,cap,rfl,(Array.getElem?_eq_some_iff.1 hh).1,⟨hc1,hc2⟩,fun i x hx=>?_⟩;have hi:=(List.getElem?_eq_some_iff.1 hx).1;have hm:(zs.map fun x=>((Value.string (kf x)),(Value.string (vf x))))[i]? =some ((Value.string (kf x)),(Value.string (vf x))):=by simp [hx]
  have a0:=rowCs_at _ i 0 _ hm (by decide);have a1:=rowCs_at _ i 1 _ hm (by decide);have c0:=h'.cellAt (i*2) (by omega);have c1:=h'.cellAt (i*2+1) (by omega);exact⟨by rw [Nat.zero_add,c0];exact a0,by rw [Nat.zero_add,c1];exact a1⟩
set_option maxRecDepth 100000 in
set_option maxHeartbeats 2000000 in
theorem all1nS_in{α:Type}(F:Fence)(n:Nat)(h7:F.fn 185)(hro:F.round=none)(l tb g:Nat)(J:List α->World->Prop)(W:World)
 (kb:W.cell? ⟨tb,0,none⟩=some (.pointer (some ⟨g,0,none⟩))) (kg:W.cell? ⟨g,1,none⟩=some (.slice none 0 0)) (h0:J [] W):
 CallsIn F n Tryz.prog 185 #[.func (.yield l) #[] #[],.pointer (some ⟨tb,0,none⟩)] W fun e W'=>(∃ v,e=.returned v)∧J [] W':=by
 refine callsIn_of_wp Tryz.func185 rfl h7 ?_ hro;simp only [Tryz.ntmps185,List.size_toArray,List.length_cons,List.length_nil,Nat.reduceAdd,Nat.reduceSub,Array.replicate_succ,Array.replicate_zero,List.push_toArray,List.append_toArray,List.nil_append,List.cons_append]
 gi_wp2
 gi_loopw [10] (fun i wr=>i=.int .i64 0∧J [] wr) (fun _ _=>0)
 case atStart=>exact⟨rfl,h0⟩
 case round=>
  obtain⟨rfl,hJs⟩:=hrel
  gi_wp2
  go_end0
  exact⟨⟨_,rfl⟩,hJs⟩
set_option maxRecDepth 100000 in
set_option maxHeartbeats 2000000 in
theorem allS_in(F:Fence)(n:Nat)(h6:F.fn 170)(hro:F.round=none)(p:Option Addr)(w:World):
 CallsIn F n Tryz.prog 170 #[.pointer p] w fun e w'=>e=.returned (.func (.func 185) #[] #[.pointer (some ⟨w.heap.size,0,none⟩)])∧w'=w.alloc (.cells #[.pointer p] 178):=by
 refine callsIn_of_wp Tryz.func170 rfl h6 ?_ hro;simp only [Tryz.ntmps170,List.size_toArray,List.length_cons,List.length_nil,Nat.reduceAdd,Nat.reduceSub,Array.replicate_succ,Array.replicate_zero,List.push_toArray,List.append_toArray,List.nil_append,List.cons_append]
 gi_wp2
 go_ret;exact⟨rfl,rfl⟩
theorem allStopsS{α:Type}(kf vf:α->ByteArray)(F:Fence)(n:Nat)(h7:F.fn 185)(hro:F.round=none)(hn:1<=n)(tb g n₀:Nat)(sv:Value)(zs:List α)(hl:zs.length<=1000000)(w:World)(htb:tb<w.heap.size)(hg:g<n₀)(hn₀:n₀<=w.heap.size)
 (kb:w.cell? ⟨tb,0,none⟩=some (.pointer (some ⟨g,0,none⟩))) (kg:w.cell? ⟨g,1,none⟩=some sv) (hR:RwsS kf vf n₀ w sv zs):
 SeqStopsK F n Tryz.prog 185 #[.pointer (some ⟨tb,0,none⟩)] (fun x:α=>#[(Value.string (kf x)),(Value.string (vf x))]) (Below n₀) (fun ys=>ys=zs) (fun pre=>pre<+:zs) zs.length w:=fun l J Jx W hW hJ _ hY h0=>by
 have kb':=(hW.cell (p:=⟨tb,0,none⟩) htb).trans kb;have kg':=(hW.cell (p:=⟨g,1,none⟩) (Nat.lt_of_lt_of_le hg hn₀)).trans kg
 rcases hR.below (hW.mono hn₀) with⟨rfl,rfl⟩|⟨b,off,cap,rfl,hb,hcp,hcs⟩
 ·exact(all1nS_in F n h7 hro l tb g J W kb' kg' h0).mono fun e W' ⟨he,hj⟩=>⟨he,.inl ⟨_,rfl,hj⟩⟩
 ·exact all1S_in kf vf F n h7 hro hn l tb g n₀ b off cap (.pointer none) zs hl hcp hb J Jx (fun s W1 W2 hs hgr=>hJ s W1 W2 none hs hgr (fun r e=>by cases e)) hY W kb' kg' hcs (Nat.le_trans hn₀ hW.size) h0
end Go.Proofs.YtgilkakllagbnaaGreat
namespace Go.Proofs.YtgilkakllagbnaaGreat
open Go.RowKit
set_option linter.unusedVariables false
theorem own_besideZ{W W1:World}{B e s m:Nat}{v:Value}{b:Option Nat}{xs:List Value}(h:W.ownsRow B e s v m xs)(hg:W.grownBy W1 b)(ha:∀ g,b=some g->v.ownBlock≠some g):W1.ownsRow B e s v m xs:=by
 refine h.kept hg ?_
 cases b with
 |none=>
  cases hv:v.ownBlock with
  |none=>exact .inl rfl
  |some k=>right;simp
 |some k=>right;exact ha k rfl
theorem own_kindsZ{W:World}{B e s m B' e' s' m':Nat}{v u:Value}{xs ys:List Value}(h:W.ownsRow B e s v m xs)(h':W.ownsRow B' e' s' u m' ys)(hne:e≠e'):∀ g,u.ownBlock=some g->v.ownBlock≠some g:=by
 intro g hu hv
 rcases h'.2 with⟨rfl,_⟩|⟨g',cap',cur',rfl,_,hh',_⟩
 ·cases hu
 ·rcases h.2 with⟨rfl,_⟩|⟨g2,cap2,cur2,rfl,_,hh,_⟩
  ·cases hv
  ·simp only [Value.ownBlock,Option.some.injEq] at hu hv;subst hu;subst hv;rw [hh] at hh';simp only [Option.some.injEq,Obj.cells.injEq] at hh';exact hne hh'.2.1
structure ZOwn (w:World) (B:Nat) (v:Value) (ps:List Zp):Prop where
 outer:w.ownsRow B 90 4 v ps.length (zpVs ps)
 inner:∀ (i:Nat) (p:Zp),ps[i]? =some p->w.ownsRow B 9 1 p.2 p.1.da.length (p.1.da.map Value.string)
 apart:∀ (i j:Nat) (p q:Zp),ps[i]? =some p->ps[j]? =some q->i≠j->∀ g,p.2.ownBlock=some g->q.2.ownBlock≠some g
theorem ZOwn.nil(w:World)(B:Nat):ZOwn w B (.slice none 0 0) []:=⟨World.ownsRow_nil _ _ _ _,by simp,by simp⟩
theorem ZOwn.below{w w':World}{B:Nat}{v:Value}{ps:List Zp}(h:ZOwn w B v ps)(hb:Below w.heap.size w w'):ZOwn w' B v ps:=
 ⟨own_below h.outer hb,fun i p hp=>own_below (h.inner i p hp) hb,h.apart⟩
theorem ZOwn.base{w:World}{B B':Nat}{v:Value}{ps:List Zp}(h:ZOwn w B v ps)(hb:B'<=B):ZOwn w B' v ps:=
 ⟨own_base h.outer hb,fun i p hp=>own_base (h.inner i p hp) hb,h.apart⟩
theorem ZOwn.beside{w w':World}{B:Nat}{v:Value}{ps:List Zp}{b:Option Nat}(h:ZOwn w B v ps)(hg:w.grownBy w' b)(hv:∀ g,b=some g->v.ownBlock≠some g)(hi:∀ g,b=some g->∀ p∈ps,p.2.ownBlock≠some g):ZOwn w' B v ps:=
 ⟨own_besideZ h.outer hg hv,fun i p hp=>own_besideZ (h.inner i p hp) hg (fun g e=>hi g e p (List.mem_of_getElem? hp)),h.apart⟩
theorem ZOwn.far{w:World}{B g i:Nat}{v y:Value}{ps:List Zp}(h:ZOwn w B v ps)(hg:g<B):ZOwn (w.setCell ⟨g,i,none⟩ y) B v ps:=
 ⟨own_far_lt h.outer hg,fun i p hp=>own_far_lt (h.inner i p hp) hg,h.apart⟩
theorem snoc_cases{α:Type}{xs:List α}{y x:α}{i:Nat}(hx:(xs++[y])[i]? =some x):(i<xs.length∧xs[i]? =some x)∨(i=xs.length∧x=y):=by
 by_cases hi:i<xs.length
 ·rw [List.getElem?_append_left hi] at hx;exact .inl ⟨hi,hx⟩
 ·rw [List.getElem?_append_right (by omega)] at hx
  have h0:i-xs.length=0:=by
   rcases Nat.eq_zero_or_pos (i-xs.length) with h|h
   ·exact h
   ·rw [List.getElem?_eq_none (by simp;omega)] at hx;cases hx
  rw [h0] at hx;simp at hx;exact .inr ⟨by omega,hx.symm⟩
theorem ZOwn.snoc{w w2:World}{B:Nat}{v v' u:Value}{s:Sz}{ps:List Zp}(h:ZOwn w B v ps)
 (hu:w.ownsRow B 9 1 u s.da.length (s.da.map Value.string)) (ha:∀ p∈ps,∀ g,p.2.ownBlock=some g->u.ownBlock≠some g)
 (ho:w2.ownsRow B 90 4 v' (ps.length+1) (zpVs ps++zpV (s,u))) (hg:w.grownBy w2 v.ownBlock):ZOwn w2 B v' (ps++[(s,u)]):=by
 have e:zpVs (ps++[(s,u)])=zpVs ps++zpV (s,u):=by simp [zpVs]
 refine⟨by rw [e];simpa using ho,fun i p hp=>?_,fun i j p q hp hq hne g hg1=>?_⟩
 ·rcases snoc_cases hp with⟨_,hp'⟩|⟨_,rfl⟩
  ·have:=h.inner i p hp';exact own_besideZ this hg (own_kindsZ this h.outer (by decide))
  ·exact own_besideZ hu hg (own_kindsZ hu h.outer (by decide))
 ·rcases snoc_cases hp with⟨hi,hp'⟩|⟨hi,rfl⟩<;>rcases snoc_cases hq with⟨hj,hq'⟩|⟨hj,rfl⟩
  ·exact h.apart i j p q hp' hq' hne g hg1
  ·exact ha p (List.mem_of_getElem? hp') g hg1
  ·intro e;exact ha q (List.mem_of_getElem? hq') g e hg1
  ·omega
theorem ZOwn.more{w w1:World}{B g cap:Nat}{u u':Value}{s:Sz}{d:ByteArray}{ps:List Zp}(h:ZOwn w B (.slice (some ⟨g,0,none⟩) (ps.length+1) cap) (ps++[(s,u)]))
 (ho:w1.ownsRow B 9 1 u' (s.da.length+1) (s.da.map Value.string++[.string d])) (hg:w.grownBy w1 u.ownBlock) (hat:u'.ownBlock=u.ownBlock∨∀ g,u'.ownBlock=some g->w.heap.size<=g):
 ZOwn (w1.setCell ⟨g,ps.length*4+3,none⟩ u') B (.slice (some ⟨g,0,none⟩) (ps.length+1) cap) (ps++[({s with da:=s.da++[d]},u')]):=by
 have hlast:(ps++[(s,u)])[ps.length]? =some (s,u):=by simp
 have hiL:=h.inner _ _ hlast
 have o1:w1.ownsRow B 90 4 (.slice (some ⟨g,0,none⟩) (ps.length+1) cap) (ps.length+1) (zpVs (ps++[(s,u)])):=by
  have:=h.outer;rw [List.length_append] at this;exact own_besideZ this hg (own_kindsZ this hiL (by decide))
 have hlt:∀ (i:Nat) (p:Zp),ps[i]? =some p->(ps++[(s,u)])[i]? =some p:=fun i p hp=>by rw [List.getElem?_append_left (List.getElem?_eq_some_iff.1 hp).1];exact hp
 have hin:∀ (i:Nat) (p:Zp),ps[i]? =some p->w1.ownsRow B 9 1 p.2 p.1.da.length (p.1.da.map Value.string):=by
  intro i p hp;have hpl:=(List.getElem?_eq_some_iff.1 hp).1;exact own_besideZ (h.inner i p (hlt i p hp)) hg (fun g' e e'=>h.apart i ps.length p (s,u) (hlt i p hp) hlast (by omega) g' e' e)
 have hapL:∀ (i:Nat) (p:Zp),ps[i]? =some p->∀ g,p.2.ownBlock=some g->u'.ownBlock≠some g:=by
  intro i p hp g' e e';have hpl:=(List.getElem?_eq_some_iff.1 hp).1
  rcases hat with h1|h1
  ·rw [h1] at e';exact h.apart i ps.length p (s,u) (hlt i p hp) hlast (by omega) g' e e'
  ·have h2:=h1 g' e';have h3:=((h.inner i p (hlt i p hp)).lt g' e).2;omega
 have e1:(zpVs (ps++[(s,u)])).set (ps.length*4+3) u'=zpVs (ps++[({s with da:=s.da++[d]},u')]):=by
  rw [zpVs_app,zpVs_app,List.set_append_right _ _ (by rw [zpVs_len];omega),zpVs_len,show ps.length*4+3-ps.length*4=3 by omega];rfl
 have hst:=o1.stored (ps.length*4+3) u';rw [e1] at hst;have far:∀ {v:Value} {n:Nat} {xs:List Value},w1.ownsRow B 9 1 v n xs->(w1.setCell ⟨g,ps.length*4+3,none⟩ u').ownsRow B 9 1 v n xs:=fun hx=>own_far hx (own_kindsZ hx o1 (by decide) g rfl)
 refine⟨by simpa using hst.1,fun i p hp=>?_,fun i j p q hp hq hne g' hg1=>?_⟩
 ·rcases snoc_cases hp with⟨_,hp'⟩|⟨_,rfl⟩
  ·exact far (hin i p hp')
  ·have:=far ho;simpa using this
 ·rcases snoc_cases hp with⟨hi,hp'⟩|⟨hi,rfl⟩<;>rcases snoc_cases hq with⟨hj,hq'⟩|⟨hj,rfl⟩
  ·exact h.apart i j p q (hlt i p hp') (hlt j q hq') hne g' hg1
  ·exact hapL i p hp' g' hg1
  ·intro e;exact hapL j q hq' g' e hg1
  ·omega
theorem Tryz.infoRw:(Tryz.prog.info? 56).map (fun i=>(i.zero,i.size,i.bytes))=some (some (.agg #[.string ByteArray.empty,.int .i64 0,.int .i64 0,.int .i64 0,.string ByteArray.empty]),5,56):=by kernel_rfl
theorem cell_newJ(w:World)(cs:Array Value)(e:Nat):∀ (j:Nat) (u:Value),cs.toList[j]? =some u->(w.alloc (.cells cs e)).cell? ((⟨w.heap.size,0,none⟩:Addr).add j)=some u:=by
 intro j u h;rw [Nm.addr_add,Nat.zero_add];have:(w.alloc (.cells cs e)).heap[w.heap.size]? =some (.cells cs e (0,0)):=by show(w.heap.push _)[w.heap.size]? =_;simp
 rw [cell_of_row _ _ _ _ _ _ this];simpa using h
theorem grown_two{w w1 w2:World}{r u:Option Nat}(h:w.grownBy w1 r)(h2:w1.grownBy w2 u)(hu:∀ k,u=some k->k<w.heap.size->r=some k):w.grownBy w2 r:=
 ⟨h2.os.trans h.os,h2.tape.trans h.tape,h2.output.trans h.output,Nat.le_trans h.size h2.size,fun k hk hr=>(h2.block k (Nat.lt_of_lt_of_le hk h.size) (fun e=>hr (hu k e.symm hk).symm)).trans (h.block k hk hr)⟩
theorem grown_below{w w1:World}{r:Option Nat}(h:Below w.heap.size w w1):w.grownBy w1 r:=⟨h.os,h.tape,h.output,h.size,fun k hk _=>h.block k hk⟩
theorem grown_refl(w:World)(r:Option Nat):w.grownBy w r:=⟨rfl,rfl,rfl,Nat.le_refl _,fun _ _ _=>rfl⟩
theorem crow_grown{w w1:World}{v:Value}{n s:Nat}{xs:List Value}{r:Option Nat}(h:CRow w v n s xs)(hg:w.grownBy w1 r)(hr:∀ g,v.ownBlock=some g->r≠some g):CRow w1 v n s xs:=by
 obtain⟨h1,a,c,rfl,h2,h3,h4⟩:=h;refine⟨h1,a,c,rfl,h2,h3,fun hp=>?_⟩;obtain⟨b,off,rfl,hc⟩:=h4 hp;exact⟨b,off,rfl,fun i y hy=>hg.cell (hc i y hy) (fun e=>hr b rfl e.symm)⟩
set_option maxRecDepth 100000 in
set_option maxHeartbeats 1600000 in
theorem l06JoinK_any(a b:Value)(xs ys:List Rr)(B:Nat)(w:World)(h:w.ownsRow B 56 5 a xs.length (rvVs xs))(hbr:∀ W,w.grownBy W a.ownBlock->CRow W b ys.length 5 (rvVs ys))(hB:B<=w.heap.size)(hn:xs.length+ys.length<=1048576):
 Calls Tryz.prog 50 #[a,b] w fun e w'=>∃ u,e=.returned u∧w'.ownsRow B 56 5 u (xs++ys).length (rvVs (xs++ys))∧w.grownBy w' a.ownBlock∧∀ g,u.ownBlock=some g->g<w.heap.size->a.ownBlock=some g:=by
 obtain⟨i0,hi,hz0,hz1,hz2⟩:=info_parts Tryz.infoRRc;obtain⟨_,ba,bc,rfl,_⟩:=hbr w (grown_refl _ _);generalize hab:a.ownBlock=ab at*;go_enter Tryz.func50,Tryz.ntmps50;go_wp2_with fail
 go_loopw [0,5] (fun u i wr=>∃ k:Nat,k<=ys.length∧i=.int .i64 k∧wr.ownsRow B 56 5 u (xs++ys.take k).length (rvVs (xs++ys.take k))∧w.grownBy wr ab∧Hid (∀ g,u.ownBlock=some g->g<w.heap.size->ab=some g)) (fun _ i _=>ys.length-(intOf i).toNat)
 case atStart=>exact⟨0,Nat.zero_le _,rfl,by simpa using h,grown_refl _ _,by show ∀ _,_;intro g hg _;rw [<- hab];exact hg⟩
 case round=>
  clear h hab;obtain⟨k,hk,rfl,hown,hgw,HU⟩:=hrel
  by_cases hlt:k<ys.length
  ·obtain⟨x,hxk⟩:∃ x,ys[k]? =some x:=⟨_,List.getElem?_eq_getElem hlt⟩;obtain⟨_,a',c',e',hcap,hmx,hcc⟩:=hbr wr hgw;cases e'
   obtain⟨g,off,rfl,hcell⟩:=hcc (by omega);obtain⟨c0,c1,c2,c3,c4⟩:=rv_cells hcell hxk;have i1:(0:Int)<=(k:Int):=by omega
   have i2:(k:Int)<(ys.length:Int):=by omega
   have HT:Hid (xs++ys.take (k+1)=(xs++ys.take k)++[x]):=by
    show _=_
    rw [List.take_add_one,hxk,List.append_assoc];rfl
   have hpl:(xs++ys.take k).length<=1048576:=by rw [List.length_append,List.length_take];omega
   generalize xs++ys.take k=PL at*;obtain⟨ya,yc,rfl⟩:=own_sl hown;have hsz:=hgw.size;clear hcell hcc hxk hbr;obtain⟨o,ty,cl,tt,da⟩:=x;simp only at c0 c1 c2 c3 c4 HT
   go_wp2_with (at_builtin;refine wpList_append_own_at _ rfl (.tmp 12) (.tmp 17) 28 rfl B 56 i0 _ 5 56 Tryz.underlying28 hi hz0 hz1 hz2 rfl (by decide) _ _ _ rfl (hown.alloc _) ⟨wr.heap.size,0,none⟩ 1 1 [.string o,.int .i64 ty,.int .i64 cl,.int .i64 tt,.string da] rfl rfl (cell_newJ _ _ _) (by intro u hu;simp at hu;rcases hu with rfl|rfl|rfl|rfl|rfl<;>rfl) (by unfold maxLen;omega) (by omega) (by simp;omega) ?_;intro va wa hown9 hgrow9 hnl9 hat9;clear hnl9)
   have hg9:=grown_two (grown_two hgw (grown_below (r:=none) ((Below.refl wr.heap.size wr).alloc (Nat.le_refl _) (.cells #[.string o,.int .i64 ty,.int .i64 cl,.int .i64 tt,.string da] 56))) (fun k e=>by cases e)) hgrow9 HU.out
   have HU2:Hid (∀ g,va.ownBlock=some g->g<w.heap.size->ab=some g):=by
    show ∀ _,_
    intro g hg hl
    rcases hat9 with e|e
    ·exact HU.out g (e▸hg) hl
    ·rw [e] at hg;simp at hg;omega
   have hown10:wa.ownsRow B 56 5 va (xs++ys.take (k+1)).length (rvVs (xs++ys.take (k+1))):=by
    rw [HT.out,rvVs_app,List.length_append];exact hown9
   obtain⟨za,zc,rfl⟩:=own_sl hown10;clear hown9 hgrow9 hown hgw hat9 HU;go_wp2_with fail
   go_roundw
   case rel=>exact⟨k+1,by omega,by go_num,hown10,hg9,HU2⟩
   case measure=>simp [intOf];omega
  ·have hkl:k=ys.length:=by omega
   subst hkl;rw [List.take_length,List.length_append] at hown;have i2:¬(ys.length:Int)<(ys.length:Int):=by omega
   clear hbr;go_wp2;go_ret;exact⟨_,rfl,hown,hgw,HU.out⟩
end Go.Proofs.YtgilkakllagbnaaGreat
namespace Go.Proofs.YtgilkakllagbnaaGreat
open Go.RowKit Go.Deep
set_option linter.unusedVariables false
section
variable {H:Type}{enc:TypeId×Value->H}{w:World}{base:Nat}{held:Bool}
theorem set_c:Tryz.prog.cellsOf 9=1∧Tryz.prog.cellsOf 2=1∧Tryz.prog.cellsOf 78=1∧Tryz.prog.cellsOf 80=4:=⟨by kernel_rfl,by kernel_rfl,by kernel_rfl,by kernel_rfl⟩
theorem open_srow{fuel:Nat}{v:Value}{x:DataW H×List MemPlace}(h:DataW.trod enc Tryz.prog w base (fun _=>true) held fuel 78 [v]=some x):
 ∃ ls,Nm.SRow w v ls∧∀ y∈ls,y.size<=maxLen:=by
 rcases Go.Deep.open_strs Tryz.underlying78 Tryz.underlying9 (by kernel_rfl) h with⟨hcs,_⟩|⟨a,l,c,m,Sx,hcs,_,hl,hm,hz,_,hcell⟩
 ·simp at hcs;subst hcs;exact⟨[],⟨none,0,rfl,by simp,by decide,fun _=>rfl,fun h=>absurd rfl h⟩,by simp⟩
 ·simp at hcs;subst hcs;have hz':m=c:=by simpa using hz
  subst hz';refine⟨(List.range l).map Sx,⟨some a,m,by simp,by simpa using hl,hm,(fun h=>by cases h),fun hne=>?_⟩,?_⟩
  ·have hpos:0<l:=by
    rcases Nat.eq_zero_or_pos l with h|h
    ·subst h;simp at hne
    ·exact h
   obtain⟨b,off,spot⟩:=a;have h0:=(hcell 0 (by omega)).1;have hspot:spot=none:=by simpa [Addr.add] using World.cell?_spot h0
   subst hspot;refine⟨b,off,rfl,?_⟩;intro i x hx
   have hi:i<l:=by
    have:=(List.getElem?_eq_some_iff.1 hx).1;simpa using this
   have:=(hcell i (by omega)).1;rw [Nm.addr_add] at this;rw [this];simp [hi] at hx
   rw [hx]
  ·intro y hy;simp only [List.mem_map,List.mem_range] at hy;obtain⟨i,hi,rfl⟩:=hy;exact(hcell i (by omega)).2
set_option maxRecDepth 100000 in
theorem open_set{fuel:Nat}{cs:List Value}{x:DataW H×List MemPlace}(h:DataW.trod enc Tryz.prog w base (fun _=>true) held fuel 80 cs=some x)(hl:cs.length=4):
 ∃ p:Zp,cs=zpV p∧Nm.SRow w p.2 p.1.da∧p.1.own.size<=maxLen∧∀ y∈p.1.da,y.size<=maxLen:=by
 obtain⟨xs,n,_,_,_,hxl,hf⟩:=DataW.trod_struct Tryz.underlying80 h;obtain⟨c1,c2,c3,_⟩:=set_c
 match cs,hl with
 |[v0,v1,v2,v3],_=>
  have g0:=hf 0 _ rfl;have g1:=hf 1 _ rfl;have g2:=hf 2 _ rfl;have g3:=hf 3 _ rfl
  match xs,hxl with
  |[y0,y1,y2,y3],_=>
   simp [c1,c2,c3] at g0 g1 g2 g3
   obtain⟨s0,e0,_,w0⟩:=DataW.trod_string Tryz.underlying9 g0;obtain⟨n1,e1,_,w1⟩:=DataW.trod_int Tryz.underlying2 g1;obtain⟨n2,e2,_,w2⟩:=DataW.trod_int Tryz.underlying2 g2;obtain⟨ls,hs,hy⟩:=open_srow g3;simp at e0 e1 e2;subst e0 e1 e2;exact⟨(⟨s0,n1,n2,ls⟩,v3),rfl,hs,w0,hy⟩
theorem choose_zp{n:Nat}{p:Nat->Zp->Prop}(h:∀ i,i<n->∃ x,p i x):∃ f:Nat->Zp,∀ i,i<n->p i (f i):=by
 classical
 refine⟨fun i=>if hi:i<n then Classical.choose (h i hi) else(⟨.empty,0,0,[]⟩,.slice none 0 0),fun i hi=>?_⟩;simp only [dif_pos hi];exact Classical.choose_spec (h i hi)
set_option maxRecDepth 100000 in
theorem open_sets{t:TypeId}{fuel:Nat}{v:Value}{x:DataW H×List MemPlace}(ht:Tryz.prog.underlying t=some (.slice 80))(h:DataW.trod enc Tryz.prog w base (fun _=>true) held fuel t [v]=some x):
 ∃ ps:List Zp,ZRow w v ps∧ZFit ps:=by
 rcases open_slice ht h with⟨e,_⟩|⟨a,len,cap,m,n,D,Pl,e,hb,hl,hm,hmm,_,hx⟩
 ·simp at e;subst e;exact⟨[],⟨⟨rfl,none,0,rfl,Nat.le_refl _,by decide,fun h=>absurd h (by simp)⟩,by simp⟩,by intro p hp;simp at hp⟩
 ·simp at e;subst e;have hlm:len<=m:=by rw [hmm];split<;>omega
  obtain⟨_,_,_,c4⟩:=set_c;rw [c4] at hx
  obtain⟨f,hf⟩:=choose_zp (n:=len) (p:=fun i r=>(∀ j,j<4->w.cell? ((a.add (i*4)).add j)=(zpV r)[j]?)∧Nm.SRow w r.2 r.1.da∧r.1.own.size<=maxLen∧∀ y∈r.1.da,y.size<=maxLen) (fun i hi=>by
   obtain⟨cs',h1,h2⟩:=hx i (by omega);obtain⟨_,hlen,hcell⟩:=World.cells?_some h1;obtain⟨r,rfl,q⟩:=open_set h2 hlen
   exact⟨r,hcell,q⟩)
  refine⟨(List.range len).map f,⟨⟨?_,some a,cap,by simp,by simpa using hl,hm,fun hpos=>?_⟩,?_⟩,?_⟩
  ·rw [zpVs_len]
  ·have hlen:0<len:=by simpa using hpos
   obtain⟨b,off,spot⟩:=a;have h0:=(hf 0 hlen).1 0 (by decide);have h0':w.cell? ((Addr.mk b off spot).add (0*4+0))=some (.string (f 0).1.own):=by rw [<- add_add];exact h0
   have hspot:spot=none:=by simpa [Addr.add] using World.cell?_spot h0'
   subst hspot;refine⟨b,off,rfl,?_⟩;intro i y hy
   have hi:i<len*4:=by
    have:=(List.getElem?_eq_some_iff.1 hy).1;rw [zpVs_len] at this;simpa using this
   obtain⟨k,j,hk,hj,rfl⟩:∃ k j,k<len∧j<4∧i=k*4+j:=⟨i / 4,i % 4,by omega,by omega,by omega⟩;rw [zpVs_at _ k j (f k) (by simp [hk]) hj] at hy;have:=(hf k hk).1 j hj;rw [add_add,hy,Nm.addr_add] at this;exact this
  ·intro p hp;simp only [List.mem_map,List.mem_range] at hp;obtain⟨i,hi,rfl⟩:=hp;exact(hf i hi).2.1
  ·intro p hp;simp only [List.mem_map,List.mem_range] at hp;obtain⟨i,hi,rfl⟩:=hp;exact(hf i hi).2.2
end
end Go.Proofs.YtgilkakllagbnaaGreat
