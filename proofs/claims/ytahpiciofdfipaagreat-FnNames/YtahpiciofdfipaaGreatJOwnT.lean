import Derived.Test.YtahpiciofdfipaaGreatJCmpM
import Derived.Test.YtahpiciofdfipaaGreatJMath
import Derived.Test.YtahpiciofdfipaaGreatRows
import Derived.WalkSpells
import Derived.WalkLawsBesides
import Derived.Lib.Bytealg
import Derived.Laws.Externs
import Derived.Laws.CopyRow
import Derived.Lib.AppendZerosOnto
import Derived.Lib.Overlaps
import Derived.Test.YtahpiciofdfipaaGreatJSameM
import Derived.Test.YtahpiciofdfipaaGreatJTrM
import Derived.RegionTactic
import Derived.BigRegion
import Derived.Deep.RegionLaw
import Derived.BigQuiet
import Derived.Deep.WholeRow
import Derived.Deep.CutRange
import Derived.Lib.SliceRun
import Derived.Deep.OwnRows
import Derived.OpenShut
namespace Go.Proofs.YtahpiciofdfipaaGreat
open Go.RowKit
set_option linter.unusedVariables false
theorem own_sl{w:World}{B e s n:Nat}{v:Value}{xs:List Value}(h:w.ownsRow B e s v n xs):∃ a cap,v=.slice a n cap:=by
 rcases h.2 with⟨rfl,rfl⟩|⟨g,cap,cur,rfl,_⟩
 ·exact⟨_,_,rfl⟩
 ·exact⟨_,_,rfl⟩
theorem own_far{W:World}{B e s n g i:Nat}{v y:Value}{xs:List Value}(h:W.ownsRow B e s v n xs)(hg:v.ownBlock≠some g):(W.setCell ⟨g,i,none⟩ y).ownsRow B e s v n xs:=by
 refine⟨h.1,?_⟩
 rcases h.2 with h0|⟨g',cap,cur,rfl,hb,hh,r⟩
 ·exact .inl h0
 ·refine .inr ⟨g',cap,cur,rfl,hb,?_,r⟩;rw [heap_setCell_other W ⟨g,i,none⟩ g' _ (fun e=>hg (by simp [Value.ownBlock,e]))];exact hh
theorem own_far_lt{W:World}{B e s n g i:Nat}{v y:Value}{xs:List Value}(h:W.ownsRow B e s v n xs)(hg:g<B):(W.setCell ⟨g,i,none⟩ y).ownsRow B e s v n xs:=by
 refine own_far h (fun e=>?_);have:=(h.lt g e).1;omega
structure GSe where
 blk:Nat
 hd:Nat
 rv:Value
 ty:Int
 tt:Int
 fi:Nat
 da:List (ByteArray×ByteArray)
structure GOw where
 blk:Nat
 hd:Nat
 rv:Value
 lv:Value
 lab:List ByteArray
 nm:ByteArray
 ss:List GSe
def ptr(b:Nat):Value:=.pointer (some ⟨b,0,none⟩)
def daRs(l:List (ByteArray×ByteArray)):List (Value×Value):=l.map fun p=>(.string p.1,.string p.2)
def seRs(l:List GSe):List (Value×Value):=l.map fun s=>(.int .i64 s.ty,ptr s.blk)
def owRs(l:List GOw):List (Value×Value):=l.map fun o=>(o.lv,ptr o.blk)
def cmpSv:Value:=.func (.func 139) #[] #[]
def cmpIv:Value:=.func (.func 135) #[] #[]
def cmpLv:Value:=.func (.func 88) #[] #[]
def fpS(s:GSe):List Nat:=s.blk::s.hd::s.rv.ownBlock.toList
def fpO(o:GOw):List Nat:=o.blk::o.hd::(o.rv.ownBlock.toList++o.ss.flatMap fpS)
def fpT(th:Nat)(rv:Value)(os:List GOw):List Nat:=th::(rv.ownBlock.toList++os.flatMap fpO)
structure SeAt (w:World) (B:Nat) (s:GSe):Prop where
 node:Blk w s.blk #[.int .i64 s.tt,.int .i64 (s.fi:Int),ptr s.hd] 164
 head:Blk w s.hd #[cmpSv,s.rv] 210
 rows:w.ownsRow B 213 2 s.rv (daRs s.da).length (rowCs (daRs s.da))
structure OwAt (w:World) (B:Nat) (o:GOw):Prop where
 node:Blk w o.blk #[.string o.nm,o.lv,ptr o.hd] 112
 head:Blk w o.hd #[cmpIv,o.rv] 175
 rows:w.ownsRow B 177 2 o.rv (seRs o.ss).length (rowCs (seRs o.ss))
 sets:∀ s∈o.ss,SeAt w B s
structure TrAt (w:World) (B th:Nat) (rv:Value) (os:List GOw):Prop where
 head:Blk w th #[cmpLv,rv] 149
 rows:w.ownsRow B 145 2 rv (owRs os).length (rowCs (owRs os))
 owners:∀ o∈os,OwAt w B o
 nodup:(fpT th rv os).Nodup
theorem blk_keep{w w':World}{b:Nat}{cs:Array Value}{T:TypeId}(h:Blk w b cs T)(he:w'.heap[b]? =w.heap[b]?):Blk w' b cs T:=he.trans h
theorem own_keep{w w':World}{B e s n:Nat}{v:Value}{xs:List Value}(h:w.ownsRow B e s v n xs)(he:∀ b∈v.ownBlock.toList,w'.heap[b]? =w.heap[b]?):w'.ownsRow B e s v n xs:=by
 refine⟨h.1,?_⟩
 rcases h.2 with h0|⟨q,cap,cur,rfl,hb,hh,r⟩
 ·exact .inl h0
 ·exact .inr ⟨q,cap,cur,rfl,hb,(he q (by simp [Value.ownBlock])).trans hh,r⟩
theorem SeAt.keep{w w':World}{B:Nat}{s:GSe}(h:SeAt w B s)(he:∀ b∈fpS s,w'.heap[b]? =w.heap[b]?):SeAt w' B s:=
 ⟨blk_keep h.node (he _ (by simp [fpS])),blk_keep h.head (he _ (by simp [fpS])),own_keep h.rows (fun b hb=>he b (by simp only [fpS,List.mem_cons];exact .inr (.inr hb)))⟩
theorem OwAt.keep{w w':World}{B:Nat}{o:GOw}(h:OwAt w B o)(he:∀ b∈fpO o,w'.heap[b]? =w.heap[b]?):OwAt w' B o:=
 ⟨blk_keep h.node (he _ (by simp [fpO])),blk_keep h.head (he _ (by simp [fpO])),own_keep h.rows (fun b hb=>he b (by simp only [fpO,List.mem_cons,List.mem_append];exact .inr (.inr (.inl hb)))),
  fun s hs=>(h.sets s hs).keep (fun b hb=>he b (by simp only [fpO,List.mem_cons,List.mem_append,List.mem_flatMap];exact .inr (.inr (.inr ⟨s,hs,hb⟩))))⟩
theorem TrAt.keep{w w':World}{B th:Nat}{rv:Value}{os:List GOw}(h:TrAt w B th rv os)(he:∀ b∈fpT th rv os,w'.heap[b]? =w.heap[b]?):TrAt w' B th rv os:=
 ⟨blk_keep h.head (he _ (by simp [fpT])),own_keep h.rows (fun b hb=>he b (by simp only [fpT,List.mem_cons,List.mem_append];exact .inr (.inl hb))),
  fun o ho=>(h.owners o ho).keep (fun b hb=>he b (by simp only [fpT,List.mem_cons,List.mem_append,List.mem_flatMap];exact .inr (.inr ⟨o,ho,hb⟩))),h.nodup⟩
theorem own_lt{w:World}{B e s n:Nat}{v:Value}{xs:List Value}(h:w.ownsRow B e s v n xs):∀ b∈v.ownBlock.toList,b<w.heap.size:=by
 intro b hb
 cases hv:v.ownBlock with
 |none=>rw [hv] at hb;simp at hb
 |some q=>
  rw [hv] at hb;simp at hb;subst hb;exact(h.lt _ hv).2
theorem SeAt.lt{w:World}{B:Nat}{s:GSe}(h:SeAt w B s):∀ b∈fpS s,b<w.heap.size:=by
 intro b hb;simp only [fpS,List.mem_cons] at hb
 rcases hb with rfl|rfl|hb
 ·exact blk_lt h.node
 ·exact blk_lt h.head
 ·exact own_lt h.rows b hb
theorem OwAt.lt{w:World}{B:Nat}{o:GOw}(h:OwAt w B o):∀ b∈fpO o,b<w.heap.size:=by
 intro b hb;simp only [fpO,List.mem_cons,List.mem_append,List.mem_flatMap] at hb
 rcases hb with rfl|rfl|hb|⟨s,hs,hb⟩
 ·exact blk_lt h.node
 ·exact blk_lt h.head
 ·exact own_lt h.rows b hb
 ·exact(h.sets s hs).lt b hb
theorem TrAt.lt{w:World}{B th:Nat}{rv:Value}{os:List GOw}(h:TrAt w B th rv os):∀ b∈fpT th rv os,b<w.heap.size:=by
 intro b hb;simp only [fpT,List.mem_cons,List.mem_append,List.mem_flatMap] at hb
 rcases hb with rfl|hb|⟨o,ho,hb⟩
 ·exact blk_lt h.head
 ·exact own_lt h.rows b hb
 ·exact(h.owners o ho).lt b hb
theorem TrAt.below{w w':World}{B th:Nat}{rv:Value}{os:List GOw}(h:TrAt w B th rv os)(hb:Below w.heap.size w w'):TrAt w' B th rv os:=
 h.keep (fun b hm=>hb.block b (h.lt b hm))
structure Outs (fp:List Nat) (w w':World):Prop where
 os:w'.os=w.os
 tape:w'.tape=w.tape
 output:w'.output=w.output
 size:w.heap.size<=w'.heap.size
 block:∀ k,k<w.heap.size->k∉fp->w'.heap[k]? =w.heap[k]?
theorem Outs.below{fp:List Nat}{w w':World}(h:Below w.heap.size w w'):Outs fp w w':=⟨h.os,h.tape,h.output,h.size,fun k hk _=>h.block k hk⟩
theorem Outs.trans{fp fp':List Nat}{w w1 w2:World}(h:Outs fp w w1)(h2:Outs fp' w1 w2)(hs:∀ k∈fp',k∈fp∨w.heap.size<=k):Outs fp w w2:=
 ⟨h2.os.trans h.os,h2.tape.trans h.tape,h2.output.trans h.output,Nat.le_trans h.size h2.size,fun k hk hn=>by
  rw [h2.block k (Nat.lt_of_lt_of_le hk h.size) (fun hm=>by rcases hs k hm with h1|h1;exact hn h1;omega)]
  exact h.block k hk hn⟩
theorem Outs.wide{fp fp':List Nat}{w w':World}(h:Outs fp w w')(hs:∀ k∈fp,k∈fp'):Outs fp' w w':=⟨h.os,h.tape,h.output,h.size,fun k hk hn=>h.block k hk (fun hm=>hn (hs k hm))⟩
end Go.Proofs.YtahpiciofdfipaaGreat
namespace Go.Proofs.YtahpiciofdfipaaGreat
open Go.RowKit
theorem ord_cmp:∀ (a b:List UInt8),Go.Lib.compareBytes a b=Nm.ordL a b:=by
 intro a
 induction a with
 |nil=>
  intro b
  cases b with
  |nil=>rfl
  |cons y b=>rfl
 |cons x a ih=>
  intro b
  cases b with
  |nil=>rfl
  |cons y b=>
   rw [Go.Lib.compareBytes]
   by_cases h:x=y
   ·subst h;rw [if_neg (by simp),if_neg (by simp),Nm.ordL_same,ih]
   ·rw [Nm.ordL_ne a b h];have hn:x.toNat≠y.toNat:=fun e=>h (UInt8.toNat_inj.1 e)
    by_cases hl:x<y
    ·have hl':(x.toNat:Int)<(y.toNat:Int):=by have:=UInt8.lt_iff_toNat_lt.1 hl;omega
     rw [if_pos hl,Nm.cmpI_lt hl']
    ·have hl':(y.toNat:Int)<(x.toNat:Int):=by
      have:¬x.toNat<y.toNat:=fun e=>hl (UInt8.lt_iff_toNat_lt.2 e)
      omega
     have hl2:y<x:=UInt8.lt_iff_toNat_lt.2 (by omega);rw [if_neg hl,if_pos hl2,Nm.cmpI_gt hl']
theorem cmpstring_run(a b:ByteArray)(w:World):(callFunc 171 #[.string a,.string b]).run Tryz.prog w=.ok (.value (.int .i64 (Nm.ordL a.data.toList b.data.toList))) w:=by
 have h:=run_callFunc_extern (P:=Tryz.prog) (f:=171) (fn:=Tryz.f171) (e:=Extern.BytealgCompare.compare) Tryz.func171 (by kernel_rfl) (by kernel_rfl) (by kernel_rfl) (by kernel_rfl) #[.string a,.string b] w;rw [h,Go.Lib.run_compareString,ord_cmp];rfl
set_option maxRecDepth 100000 in
set_option maxHeartbeats 400000 in
theorem compare_any'(a b:ByteArray)(w:World):
 Calls Tryz.prog 139 #[.string a,.string b] w fun e w'=>e=.returned (.int .i64 (Nm.ordL a.data.toList b.data.toList))∧w'=w:=by
 have hx:=cmpstring_run a b;generalize Nm.ordL a.data.toList b.data.toList=r at*;go_enter Tryz.func139,Tryz.ntmps139;go_wp2_with (go_at_call 155;go_in)
 go_ret;exact⟨rfl,rfl⟩
end Go.Proofs.YtahpiciofdfipaaGreat
namespace Go.Proofs.YtahpiciofdfipaaGreat
open Go.RowKit
set_option linter.unusedVariables false
theorem run_copy_rowK{P:Program}(w:World)(dT sT ty elem:TypeId)(g o dLen dCap:Nat)(a:Addr)(sLen sCap:Nat)(cur:Array Value)(t:TypeId)(cs:List Value)(sz:Nat)
 (hu:P.underlying dT=some (.slice elem)) (hs:(P.info? elem).map (·.size)=some sz)
 (hg:w.heap[g]? =some (.cells cur t (0,0))) (hn:cs.length=Nat.min sLen dLen*sz)
 (hsrc:∀ j v,cs[j]? =some v->w.cell? (a.add j)=some v) (hfit:o+cs.length<=cur.size) (h1:∀ v∈cs,v.oneCell'=true):
 (Builtin.copy_ #[dT,sT] ty #[.slice (some ⟨g,o,none⟩) dLen dCap,.slice (some a) sLen sCap]).run P w=
  .ok (goInt (Nat.min sLen dLen)) (w.setRow g (cur.toList.take o++cs++cur.toList.drop (o+cs.length)).toArray):=by
 have hl:=run_loadCells_list (P:=P) w a cs hsrc;have hst:=run_storeCells_at P g o t cs 0 cur w hg (by simpa using hfit) h1
 cases hq:P.info? elem with
 |none=>simp [hq] at hs
 |some i=>
  have hi:i.size=sz:=by simpa [hq] using hs
  simp [Builtin.copy_,run_underlying hu,Builtin.lenOf,Builtin.firstCells,sizeOf,typeInfo,hq,hi,<- hn,hl,hst]
theorem wpList_app_ranT{P:Program}{ops:Array Oper}{rest:List Oper}{o:Oper}{a:Act}{w:World}{Q:Exit->Act->World->Prop}(hgd:o.guard=none)(s x:Operand)(t t2:TypeId)
 (ho:o.op=.call {callee:=.builtin .append,args:=#[s,x],argTypes:=#[t,t2]}) (v u v':Value) (w':World) (hs:a.eval s=v) (hx:a.eval x=u)
 (hr:(Builtin.append_ #[t,t2] o.type #[v,u]).run P w=.ok v' w') (h:wpList P ops Q rest (a.put o.dst v') w'):wpList P ops Q (o::rest) a w:=
 wpList_plain hgd fun _ hK=>by
  unfold Oper.wp execOp;simp only [ho,resolve,invoke,builtin,Sem.run_bind,Sem.run_pure,Result.andThen_ok,List.map_toArray,List.map_cons,List.map_nil,hs,hx,hr];exact hK _ _ h
theorem setRow_blk{w:World}{g:Nat}{cur:Array Value}{t:TypeId}(hg:Blk w g cur t)(cs:Array Value):Blk (w.setRow g cs) g cs t:=by
 unfold Blk at*;have hlt:=(Array.getElem?_eq_some_iff.1 hg).1;have he:=(Array.getElem?_eq_some_iff.1 hg).2;simp [World.setRow,Array.getElem?_modify,hg]
theorem setRow_size(w:World)(g:Nat)(cs:Array Value):(w.setRow g cs).heap.size=w.heap.size:=by simp [World.setRow]
theorem setRow_grown(w:World)(g:Nat)(cs:Array Value):w.grownBy (w.setRow g cs) (some g):=
 ⟨rfl,rfl,rfl,by rw [setRow_size];exact Nat.le_refl _,fun k hk hne=>setRow_other w g k cs (fun e=>hne (by rw [e]))⟩
theorem own_of_blk{w:World}{B e s g n cap:Nat}{cur:Array Value}{xs:List Value}(hg:Blk w g cur e)(hB:B<=g)(hn:n<=cap)(hm:cap<=maxLen)(hs:cur.size=cap*s)(ht:cur.toList.take (n*s)=xs):w.ownsRow B e s (.slice (some ⟨g,0,none⟩) n cap) n xs:=by
 refine⟨?_,.inr ⟨g,cap,cur,rfl,hB,hg,hn,hm,hs,ht⟩⟩;rw [<- ht,List.length_take,Array.length_toList,hs,Nat.min_eq_left (Nat.mul_le_mul_right _ hn)]
theorem ins_room{cur xs:List Value}{i n cap:Nat}(x0 x1:Value)(hcl:cur.length=cap*2)(ht:cur.take (n*2)=xs)(hi:i<n)(hr:n+1<=cap):
 ∀ c1,c1=cur.take ((i+1)*2)++xs.drop (i*2)++cur.drop ((i+1)*2+(xs.drop (i*2)).length)->c1.length=cap*2∧∀ c2,c2=c1.take (i*2)++[x0,x1]++c1.drop (i*2+[x0,x1].length)->c2.length=cap*2∧c2.take ((n+1)*2)=xs.take (i*2)++[x0,x1]++xs.drop (i*2):=by
 intro c1 h1;have hxl:xs.length=n*2:=by rw [<- ht,List.length_take];omega
 have hdl:(xs.drop (i*2)).length=(n-i)*2:=by rw [List.length_drop,hxl];omega
 have htl:(cur.take ((i+1)*2)).length=(i+1)*2:=by rw [List.length_take];omega
 have hl1:c1.length=cap*2:=by rw [h1];simp only [List.length_append,htl,hdl,List.length_drop];omega
 refine⟨hl1,fun c2 h2=>?_⟩
 have e1:c1.take (i*2)=xs.take (i*2):=by
  rw [h1,List.append_assoc,List.take_append,htl,List.take_take,show i*2-(i+1)*2=0 by omega,List.take_zero,List.append_nil,<- ht,List.take_take];congr 1;omega
 have e2:c1.drop (i*2+[x0,x1].length)=xs.drop (i*2)++cur.drop ((i+1)*2+(xs.drop (i*2)).length):=by
  rw [show i*2+[x0,x1].length=(i+1)*2 by simp;omega,h1,List.append_assoc,List.drop_append,htl,Nat.sub_self,List.drop_zero,List.drop_of_length_le (Nat.le_of_eq htl),List.nil_append]
 have hxt:(xs.take (i*2)).length=i*2:=by rw [List.length_take,hxl];omega
 rw [e1,e2] at h2;have hl3:(xs.take (i*2)++[x0,x1]++xs.drop (i*2)).length=(n+1)*2:=by simp only [List.length_append,hxt,hdl,List.length_cons,List.length_nil];omega
 have e3:c2=(xs.take (i*2)++[x0,x1]++xs.drop (i*2))++cur.drop ((i+1)*2+(xs.drop (i*2)).length):=by rw [h2];simp only [List.append_assoc]
 refine⟨?_,?_⟩
 ·rw [e3,List.length_append,hl3,List.length_drop,hcl,hdl];omega
 ·rw [e3,<- hl3,List.take_left]
theorem ins_grow{xs z:List Value}{i n cap:Nat}(x0 x1:Value)(hxl:xs.length=n*2)(hi:i<n)(hr:n+1<=cap)(hz:(xs.take (i*2)++z).length=cap*2):
 ∀ c1,c1=(xs.take (i*2)++z).take (i*2)++[x0,x1]++(xs.take (i*2)++z).drop (i*2+[x0,x1].length)->c1.length=cap*2∧∀ c2,c2=c1.take ((i+1)*2)++xs.drop (i*2)++c1.drop ((i+1)*2+(xs.drop (i*2)).length)->c2.length=cap*2∧c2.take ((n+1)*2)=xs.take (i*2)++[x0,x1]++xs.drop (i*2):=by
 intro c1 h1;have hxt:(xs.take (i*2)).length=i*2:=by rw [List.length_take,hxl];omega
 have hdl:(xs.drop (i*2)).length=(n-i)*2:=by rw [List.length_drop,hxl];omega
 have e1:(xs.take (i*2)++z).take (i*2)=xs.take (i*2):=by
  have:=List.take_left (l₁:=xs.take (i*2)) (l₂:=z);rw [hxt] at this;exact this
 rw [e1] at h1
 have hl1:c1.length=cap*2:=by
  rw [h1];simp only [List.length_append,hxt,List.length_drop,List.length_cons,List.length_nil] at hz ⊢;omega
 refine⟨hl1,fun c2 h2=>?_⟩;have hl2:(xs.take (i*2)++[x0,x1]).length=(i+1)*2:=by simp only [List.length_append,hxt,List.length_cons,List.length_nil];omega
 have e2:c1.take ((i+1)*2)=xs.take (i*2)++[x0,x1]:=by rw [h1,<- hl2,List.take_left]
 rw [e2] at h2;have hl3:(xs.take (i*2)++[x0,x1]++xs.drop (i*2)).length=(n+1)*2:=by rw [List.length_append,hl2,hdl];omega
 refine⟨?_,?_⟩
 ·rw [h2,List.length_append,hl3,List.length_drop,hl1,hdl];omega
 ·rw [h2,<- hl3,List.take_left]
end Go.Proofs.YtahpiciofdfipaaGreat
namespace Go.Proofs.YtahpiciofdfipaaGreat
open Go.RowKit
set_option maxRecDepth 100000 in
set_option maxHeartbeats 800000 in
theorem specSameName_any(a b:ByteArray)(w:World)(ha:a.size<=maxLen)(hb:b.size<=maxLen):
 Calls Tryz.prog 12 #[.string a,.string b] w fun e w'=>e=.returned (.bool (sameS a b))∧Below w.heap.size w w':=by
 have hsa:=specFoldName_any a w ha;have hsb:=fun W=>specFoldName_any b W hb
 cases hqa:Nm.split a with
 |none=>
  have HA:=Nm.hide (same_left (b:=b) hqa);rw [Nm.foldS_none hqa] at hsa;have he:(ByteArray.empty).toList.isEmpty=true:=Nm.tl_empty rfl;clear hqa;go_enter Tryz.func12,Tryz.ntmps12;go_wp2_with fail
  refine hsa.mono ?_;rintro e w1 ⟨rfl,hbel⟩;go_wp2;go_ret;rw [HA.out]
  exact⟨rfl,hbel⟩
 |some xs=>
  rw [Nm.foldS_some hqa] at hsa;have he:=small_pos hqa
  cases hqb:Nm.split b with
  |none=>
   have HA:=Nm.hide (same_right (a:=a) hqb);rw [Nm.foldS_none hqb] at hsb
   have hne:((Nm.small a).toList==(ByteArray.empty).toList)=false:=by
    rw [beq_eq_false_iff_ne];intro e;rw [e] at he;rw [Nm.tl_empty rfl] at he;simp at he
   clear hqa hqb;generalize Nm.small a=x at*;go_enter Tryz.func12,Tryz.ntmps12;go_wp2_with fail
   refine hsa.mono ?_;rintro e w1 ⟨rfl,hbel⟩;go_wp2_with fail
   refine(hsb _).mono ?_;rintro e w2 ⟨rfl,hbel2⟩;go_wp2;go_ret;rw [HA.out]
   exact⟨rfl,Nm.below_two hbel hbel2⟩
  |some ys=>
   have HA:=Nm.hide (same_some hqa hqb);have HE:=Nm.hide (small_eq a b);rw [Nm.foldS_some hqb] at hsb;clear hqa hqb;generalize Nm.small a=x at*;generalize Nm.small b=y at*;go_enter Tryz.func12,Tryz.ntmps12;go_wp2_with fail
   refine hsa.mono ?_;rintro e w1 ⟨rfl,hbel⟩;go_wp2_with fail
   refine(hsb _).mono ?_;rintro e w2 ⟨rfl,hbel2⟩;go_wp2;go_ret;rw [HA.out,<- HE.out];exact⟨rfl,Nm.below_two hbel hbel2⟩
end Go.Proofs.YtahpiciofdfipaaGreat
namespace Go.Proofs.YtahpiciofdfipaaGreat
open Go.RowKit
set_option linter.unusedVariables false
def recsOf(s:Sz):List Rr:=s.da.map fun d=>⟨s.own,s.ty,1,s.tt,d⟩
def recsAll(ps:List Zp):List Rr:=ps.flatMap fun p=>recsOf p.1
def dsum:List Zp->Nat
 |[]=>0
 |x::xs=>x.1.da.length+dsum xs
def zoneRecs(ps:List Zp):List Rr:=if 500<ps.length∨500<dsum ps then [] else recsAll ps
theorem recsOf_len(s:Sz):(recsOf s).length=s.da.length:=by simp [recsOf]
theorem recsOf_get{s:Sz}{k:Nat}{d:ByteArray}(h:s.da[k]? =some d):(recsOf s).take (k+1)=(recsOf s).take k++[⟨s.own,s.ty,1,s.tt,d⟩]:=by
 rw [List.take_add_one];congr 1;simp [recsOf,h]
theorem dsum_step:∀ (xs:List Zp) (k:Nat) (x:Zp),xs[k]? =some x->dsum (xs.take (k+1))=dsum (xs.take k)+x.1.da.length:=by
 intro xs
 induction xs with
 |nil=>intro k x h;simp at h
 |cons y xs ih=>
  intro k x h
  cases k with
  |zero=>simp at h;subst h;simp [dsum]
  |succ k=>
   simp at h;have:=ih k x h;simp only [List.take_succ_cons,dsum];omega
theorem dsum_take_le:∀ (xs:List Zp) (k:Nat),dsum (xs.take k)<=dsum xs:=by
 intro xs
 induction xs with
 |nil=>intro k;simp [dsum]
 |cons y xs ih=>
  intro k
  cases k with
  |zero=>simp [dsum]
  |succ k=>have:=ih k;simp only [List.take_succ_cons,dsum];omega
theorem dsum_le(ps:List Zp):dsum ps<=zsum ps:=by
 induction ps with
 |nil=>simp [dsum,zsum]
 |cons y ps ih=>simp only [dsum,zsum,zs1];omega
theorem recsAll_step{ps:List Zp}{k:Nat}{x:Zp}(h:ps[k]? =some x):recsAll (ps.take (k+1))=recsAll (ps.take k)++recsOf x.1:=by
 rw [List.take_add_one,h];simp [recsAll]
theorem recsAll_len(ps:List Zp):(recsAll ps).length=dsum ps:=by
 induction ps with
 |nil=>rfl
 |cons y ps ih=>
  have:recsAll (y::ps)=recsOf y.1++recsAll ps:=by simp [recsAll]
  rw [this,List.length_append,recsOf_len,ih,dsum]
theorem rv_one(r:Rr):∀ u∈rvV r,u.oneCell'=true:=by
 intro u hu;simp [rvV] at hu
 rcases hu with rfl|rfl|rfl|rfl|rfl<;>rfl
theorem rvs_one(xs:List Rr):∀ u∈rvVs xs,u.oneCell'=true:=by
 intro u hu;simp only [rvVs,List.mem_flatMap] at hu;obtain⟨r,_,h⟩:=hu;exact rv_one r u h
theorem cell_newV(w:World)(cs:Array Value)(e:Nat):∀ (j:Nat) (u:Value),cs.toList[j]? =some u->(w.alloc (.cells cs e)).cell? ((⟨w.heap.size,0,none⟩:Addr).add j)=some u:=by
 intro j u h;rw [Nm.addr_add,Nat.zero_add];have:(w.alloc (.cells cs e)).heap[w.heap.size]? =some (.cells cs e (0,0)):=by show(w.heap.push _)[w.heap.size]? =_;simp
 rw [cell_of_row _ _ _ _ _ _ this];simpa using h
theorem Tryz.infoSet:(Tryz.prog.info? 44).map (fun i=>(i.zero,i.size,i.bytes))=some (some (.agg #[.string ByteArray.empty,.int .i64 0,.int .i64 0,.slice none 0 0]),4,56):=by kernel_rfl
end Go.Proofs.YtahpiciofdfipaaGreat
namespace Go.Proofs.YtahpiciofdfipaaGreat
open Go.RowKit
def ZL(ps:List Zp):Prop:=zsum ps<=1048576∧ps.length<=1048576∧∀ p∈ps,p.1.own.size<=1048576∧p.1.da.length<=1048576∧∀ x∈p.1.da,x.size<=1048576
end Go.Proofs.YtahpiciofdfipaaGreat
namespace Go.Proofs.YtahpiciofdfipaaGreat
open Go.RowKit
def intCells(l:List Int):List Value:=l.map fun x=>.int .i64 x
end Go.Proofs.YtahpiciofdfipaaGreat
namespace Go.Proofs.YtahpiciofdfipaaGreat
open Go.RowKit
set_option linter.unusedVariables false
theorem wpList_clear_ran{P:Program}{ops:Array Oper}{rest:List Oper}{o:Oper}{a:Act}{w w':World}{Q:Exit->Act->World->Prop}(hgd:o.guard=none)(x:Operand)(t:TypeId)(ho:o.op=.call {callee:=.builtin .clear,args:=#[x],argTypes:=#[t]})(v:Value)(hx:a.eval x=v)
 (hr:(Builtin.clear_ #[t] o.type #[v]).run P w=.ok (.tuple #[]) w') (h:wpList P ops Q rest (a.put o.dst (.tuple #[])) w'):wpList P ops Q (o::rest) a w:=
 wpList_plain hgd fun _ hK=>by
  unfold Oper.wp;simp [execOp,ho,resolve,invoke,builtin,hx,hr,Result.andThen]
  exact hK _ _ h
end Go.Proofs.YtahpiciofdfipaaGreat
namespace Go.Proofs.YtahpiciofdfipaaGreat
open Go.RowKit
set_option linter.unusedVariables false
def RowB(w:World)(a:Option Addr)(len cap:Nat)(zs:List Int):Prop:=
 (a=none∧len=0∧cap=0∧zs=[])∨
 ∃ x,a=some x∧len<=cap∧cap<=maxLen∧zs.length=cap∧(∀ i,i<zs.length->w.cell? (x.add i)=some (.int .u8 (zs.getD i 0)))∧∀ n∈zs,(Lit.int .u8 n).wf=true
theorem u8_wf{z:Int}(h:(Lit.int .u8 z).wf=true):((UInt8.ofNat z.toNat).toNat:Int)=z:=by
 have h2:=bounds_u8 h;simp
 omega
theorem rowB{w:World}{a:Option Addr}{n cap:Nat}{zs:List Int}(h:RowB w a n cap zs):∃ l:List UInt8,l.length=n∧CRow w (.slice a n cap) n 1 (Nm.bys l):=by
 rcases h with⟨rfl,rfl,rfl,rfl⟩|⟨x,rfl,hl,hm,hz,hc,hw⟩
 ·exact⟨[],rfl,rfl,none,0,rfl,Nat.le_refl _,by decide,fun h=>by omega⟩
 ·have hlen:((zs.take n).map (fun z=>UInt8.ofNat z.toNat)).length=n:=by simp;omega
  refine⟨(zs.take n).map (fun z=>UInt8.ofNat z.toNat),hlen,by rw [Nm.bys_length,hlen,Nat.mul_one],some x,cap,rfl,hl,hm,fun hp=>?_⟩
  have hs:x.spot=none:=by
   have:=World.cell?_spot (hc 0 (by omega));simpa [Addr.add] using this
  obtain⟨b,off,sp⟩:=x;simp only at hs
  subst hs;refine⟨b,off,rfl,fun i y hy=>?_⟩
  have hi:i<n:=by
   have:=(List.getElem?_eq_some_iff.1 hy).1
   rwa [Nm.bys_length,hlen] at this
  rw [<- Nm.addr_add,hc i (by omega),<- hy];have hz:zs[i]? =some (zs.getD i 0):=by rw [List.getD_eq_getElem?_getD,List.getElem?_eq_getElem (by omega)];rfl
  rw [Nm.bys,List.getElem?_map,List.getElem?_map,List.getElem?_take,if_pos hi,hz];simp only [Option.map_some];rw [u8_wf (hw _ (List.mem_of_getElem? hz))]
theorem Tryz.infoBy:(Tryz.prog.info? 5).map (fun i=>(i.zero,i.size,i.bytes))=some (some (.int .u8 0),1,1):=by kernel_rfl
abbrev BySl(w:World)(v:Value)(l:List UInt8):Prop:=CRow w v l.length 1 (Nm.bys l)
end Go.Proofs.YtahpiciofdfipaaGreat
namespace Go.Proofs.YtahpiciofdfipaaGreat
open Go.RowKit
set_option linter.unusedVariables false
end Go.Proofs.YtahpiciofdfipaaGreat
namespace Go.Proofs.YtahpiciofdfipaaGreat
open Go.RowKit
set_option linter.unusedVariables false
end Go.Proofs.YtahpiciofdfipaaGreat
