import Derived.Test.YtfmolgdfjklmpaaGreatJMath
import Derived.Test.YtfmolgdfjklmpaaGreatRows
import Derived.WalkSpells
import Derived.WalkLawsBesides
import Derived.Lib.BufferWrite
import Derived.Lib.UnsafeStr
import Derived.Laws.MakeOwn
import Derived.Lib.Bytealg
import Derived.Laws.Externs
import Derived.Deep.QuietTactic
import Derived.BigQuiet
import Derived.Laws.CopyRow
import Derived.Lib.AppendZerosOnto
import Derived.Lib.Overlaps
import Derived.RegionTactic
import Derived.Laws.AppendOwn
import Derived.Deep.RegionHeld3
import Derived.Deep.RegionLaw
import Derived.Shelf.Small.Bits
import Derived.Shelf.Small.Strs
import Derived.Shelf.Strconv.Itoa0
import Derived.Shelf.Sort.Plain
import Derived.Shelf.Slices.CompactS
import Derived.Ground.Names2Prog
import Derived.Shelf.Slices.SearchI
import Derived.Shelf.Slices.Cells
import Derived.Shelf.Slices.In.SortNone
import Derived.Test.YtfmolgdfjklmpaaGreatProg
import Derived.Maps.AppendAt
import Derived.BigRegion
import Derived.Lib.Split
import Derived.Lib.IndexMore
import Derived.Deep.AppendSrc
import Derived.Deep.Upon
namespace Go.Proofs.YtfmolgdfjklmpaaGreat
open Go.RowKit
def ssum:List ByteArray->Nat
 |[]=>0
 |l::r=>l.size+ssum r
end Go.Proofs.YtfmolgdfjklmpaaGreat
namespace Go.Proofs.YtfmolgdfjklmpaaGreat
open Go.RowKit
set_option linter.unusedVariables false
structure Sz where
 own:ByteArray
 ty:Int
 tt:Int
 da:List ByteArray
abbrev Zp:Type:=Sz×Value
def zpV(p:Zp):List Value:=[.string p.1.own,.int .i64 p.1.ty,.int .i64 p.1.tt,p.2]
def zpVs(ps:List Zp):List Value:=ps.flatMap zpV
theorem zpVs_cons(x:Zp)(xs:List Zp):zpVs (x::xs)=zpV x++zpVs xs:=by simp [zpVs]
theorem zpVs_app(a b:List Zp):zpVs (a++b)=zpVs a++zpVs b:=by simp [zpVs]
theorem zpVs_len(xs:List Zp):(zpVs xs).length=xs.length*4:=by
 induction xs with
 |nil=>rfl
 |cons x xs ih=>
  have:(zpV x).length=4:=rfl;rw [zpVs_cons,List.length_append,ih,List.length_cons,this];omega
theorem zpVs_at:∀ (xs:List Zp) (k j:Nat) (x:Zp),xs[k]? =some x->j<4->(zpVs xs)[k*4+j]? =(zpV x)[j]? :=by
 intro xs
 induction xs with
 |nil=>intro k j x h;simp at h
 |cons y xs ih=>
  intro k j x h hj;have hl:(zpV y).length=4:=rfl
  cases k with
  |zero=>
   simp at h;subst h
   rw [zpVs_cons,Nat.zero_mul,Nat.zero_add,List.getElem?_append_left (by omega)]
  |succ k=>
   simp at h;rw [zpVs_cons,List.getElem?_append_right (by omega),hl,show(k+1)*4+j-4=k*4+j by omega];exact ih k j x h hj
theorem zp_cells{w:World}{xs:List Zp}{b off k:Nat}{x:Zp}(hc:∀ (i:Nat) (y:Value),(zpVs xs)[i]? =some y->w.cell? ⟨b,off+i,none⟩=some y)(h:xs[k]? =some x):
 w.cell? ⟨b,off+k*4,none⟩=some (.string x.1.own)∧w.cell? ⟨b,off+k*4+1,none⟩=some (.int .i64 x.1.ty)∧w.cell? ⟨b,off+k*4+2,none⟩=some (.int .i64 x.1.tt)∧w.cell? ⟨b,off+k*4+3,none⟩=some x.2:=
 ⟨hc (k*4) _ ((zpVs_at xs k 0 x h (by decide)).trans rfl),hc (k*4+1) _ ((zpVs_at xs k 1 x h (by decide)).trans rfl),hc (k*4+2) _ ((zpVs_at xs k 2 x h (by decide)).trans rfl),hc (k*4+3) _ ((zpVs_at xs k 3 x h (by decide)).trans rfl)⟩
def ZRow(w:World)(v:Value)(ps:List Zp):Prop:=CRow w v ps.length 4 (zpVs ps)∧∀ p∈ps,Nm.SRow w p.2 p.1.da
theorem ZRow.below{w W:World}{v:Value}{ps:List Zp}(h:ZRow w v ps)(hb:Below w.heap.size w W):ZRow W v ps:=⟨h.1.below hb,fun p hp=>(h.2 p hp).below hb⟩
def zs1(s:Sz):Nat:=s.own.size+(s.da.length+ssum s.da)
def zsum:List Zp->Nat
 |[]=>0
 |x::xs=>zs1 x.1+zsum xs
theorem zsum_mem:∀ (xs:List Zp) (x:Zp),x∈xs->zs1 x.1<=zsum xs:=by
 intro xs
 induction xs with
 |nil=>intro x h;simp at h
 |cons y xs ih=>
  intro x h
  rcases List.mem_cons.1 h with rfl|h
  ·simp only [zsum];omega
  ·have:=ih x h;simp only [zsum];omega
end Go.Proofs.YtfmolgdfjklmpaaGreat
namespace Go.Proofs.YtfmolgdfjklmpaaGreat
open Go.RowKit
def ZL(ps:List Zp):Prop:=zsum ps<=1048576∧ps.length<=1048576∧∀ p∈ps,p.1.own.size<=1048576∧p.1.da.length<=1048576∧∀ x∈p.1.da,x.size<=1048576
end Go.Proofs.YtfmolgdfjklmpaaGreat
namespace Go.Proofs.YtfmolgdfjklmpaaGreat
open Go.RowKit
theorem Tryz.infoU8c:(Tryz.prog.info? 5).map (fun i=>(i.zero,i.size,i.bytes))=some (some (.int .u8 0),1,1):=by kernel_rfl
set_option maxRecDepth 100000 in
set_option maxHeartbeats 800000 in
theorem clone_any(s:ByteArray)(w:World)(hs:s.size<=1000000000):
 Calls Tryz.prog 78 #[.string s] w fun e w'=>e=.returned (.string s)∧Below w.heap.size w w':=by
 by_cases h0:s.size=0
 ·have hs0:s=⟨#[]⟩:=by
   apply ByteArray.ext;exact Array.eq_empty_of_size_eq_zero h0
  subst hs0;go_enter Tryz.func78,Tryz.ntmps78;go_wp2;go_ret;exact⟨rfl,Below.refl _ _⟩
 ·obtain⟨i0,hi,hz0,hz1,hz2⟩:=info_parts Tryz.infoU8c;have hinfo:(Tryz.prog.info? 5).map (·.size)=some 1:=by rw [hi];simp [hz1]
  have hco:Tryz.prog.cellsOf 5=1:=by simp [Program.cellsOf,hi,hz1]
  obtain⟨M,hM⟩:∃ M,M=madeCells (Value.int .u8 0).cells (((s.size:Nat):Int).toNat*i0.size):=⟨_,rfl⟩;have hMs:M.size=s.size:=by rw [hM,size_madeCells,hz1];simp
  have hmk:∀ W:World,(Instr.makeSlice 22 (.int .i64 (s.size:Int)) (.int .i64 (s.size:Int))).run Tryz.prog W=.ok (.slice (some ⟨W.heap.size,0,none⟩) s.size s.size) (W.alloc (.cells M 5)):=by
   intro W;have h:=run_make (P:=Tryz.prog) W 22 5 i0 (.int .u8 0) Tryz.underlying22 hi hz0 .i64 .i64 (s.size:Int) (s.size:Int) (by omega) (by omega) (by rw [hz2];omega) (by omega);rw [<- hM] at h;simpa using h
  clear hM;have hcp:=Lib.run_copy_row_string (P:=Tryz.prog) (w.alloc (.cells M 5)) 22 9 3 5 w.heap.size 0 s.size s.size s M 5 Tryz.underlying22 hinfo (heap_alloc_new w _) (Nat.le_refl _) (by omega);obtain⟨Y,hY⟩:∃ Y,Y=(M.toList.take 0++Lib.byteCells s.data.toList++M.toList.drop (0+s.size)).toArray:=⟨_,rfl⟩;rw [<- hY] at hcp
  have hYl:Y.toList=Lib.byteCells s.data.toList:=by
   rw [hY,List.toList_toArray,List.take_zero,List.nil_append,List.drop_of_length_le (by rw [Array.length_toList];omega),List.append_nil]
  have hgY:((w.alloc (.cells M 5)).setRow w.heap.size Y).heap[w.heap.size]? =some (.cells Y 5 (0,0)):=setRow_heap _ _ M _ 5 (0,0) (heap_alloc_new w _);have hlen:s.data.toList.length=s.size:=by simp
  have hYs:Y.size=s.size:=by rw [<- Array.length_toList,hYl,Lib.byteCells_length,hlen]
  have hne:s.data.toList≠[]:=fun e=>h0 (by rw [<- hlen,e];rfl)
  have hUS:=Lib.run_unsafeString_row (P:=Tryz.prog) ((w.alloc (.cells M 5)).setRow w.heap.size Y) 208 3 9 5 Tryz.underlying208 hco w.heap.size Y.size (by unfold World.shape?;rw [hgY]) s.data.toList hne (by omega) (by omega)
   (by
    intro j x hx;rw [Nm.addr_add,Nat.zero_add,cell_of_row _ _ _ _ _ _ hgY,<- Array.getElem?_toList,hYl]
    simp only [Lib.byteCells,List.getElem?_map,hx,Option.map_some])
  rw [hlen] at hUS;clear hY;go_enter Tryz.func78,Tryz.ntmps78;go_wp2;go_ret;have hb1:Below w.heap.size w (w.alloc (.cells M 5)):=(Below.refl _ w).alloc (Nat.le_refl _) _;have hb2:Below w.heap.size (w.alloc (.cells M 5)) ((w.alloc (.cells M 5)).setRow w.heap.size Y):=⟨rfl,rfl,rfl,by simp,fun k hk=>setRow_other _ _ _ _ (by omega)⟩;exact⟨rfl,Lib.below_freeze (hb1.trans hb2) (p:=⟨w.heap.size,0,none⟩) (Nat.le_refl _) _⟩
end Go.Proofs.YtfmolgdfjklmpaaGreat
namespace Go.Proofs.YtfmolgdfjklmpaaGreat
open Go.RowKit
theorem ord_cmp:∀ (a b:List UInt8),Go.Lib.compareBytes a b=Nm.ordL a b:=by
 intro a
 induction a with
 |nil=>
  intro b
  cases b with
  |nil=>rfl
  |cons y b=>rfl
 |cons x a ih=>
  intro b
  cases b with
  |nil=>rfl
  |cons y b=>
   rw [Go.Lib.compareBytes]
   by_cases h:x=y
   ·subst h;rw [if_neg (by simp),if_neg (by simp),Nm.ordL_same,ih]
   ·rw [Nm.ordL_ne a b h];have hn:x.toNat≠y.toNat:=fun e=>h (UInt8.toNat_inj.1 e)
    by_cases hl:x<y
    ·have hl':(x.toNat:Int)<(y.toNat:Int):=by have:=UInt8.lt_iff_toNat_lt.1 hl;omega
     rw [if_pos hl,Nm.cmpI_lt hl']
    ·have hl':(y.toNat:Int)<(x.toNat:Int):=by
      have:¬x.toNat<y.toNat:=fun e=>hl (UInt8.lt_iff_toNat_lt.2 e)
      omega
     have hl2:y<x:=UInt8.lt_iff_toNat_lt.2 (by omega);rw [if_neg hl,if_pos hl2,Nm.cmpI_gt hl']
theorem cmpstring_run(a b:ByteArray)(w:World):(callFunc 202 #[.string a,.string b]).run Tryz.prog w=.ok (.value (.int .i64 (Nm.ordL a.data.toList b.data.toList))) w:=by
 have h:=run_callFunc_extern (P:=Tryz.prog) (f:=202) (fn:=Tryz.f202) (e:=Extern.BytealgCompare.compare) Tryz.func202 (by kernel_rfl) (by kernel_rfl) (by kernel_rfl) (by kernel_rfl) #[.string a,.string b] w;rw [h,Go.Lib.run_compareString,ord_cmp];rfl
set_option maxRecDepth 100000 in
set_option maxHeartbeats 400000 in
theorem compare_any'(a b:ByteArray)(w:World):
 Calls Tryz.prog 152 #[.string a,.string b] w fun e w'=>e=.returned (.int .i64 (Nm.ordL a.data.toList b.data.toList))∧w'=w:=by
 have hx:=cmpstring_run a b;generalize Nm.ordL a.data.toList b.data.toList=r at*;go_enter Tryz.func152,Tryz.ntmps152;go_wp2_with (go_at_call 180;go_in)
 go_ret;exact⟨rfl,rfl⟩
end Go.Proofs.YtfmolgdfjklmpaaGreat
namespace Go.Proofs.YtfmolgdfjklmpaaGreat
open Go.RowKit
set_option maxRecDepth 100000 in
set_option maxHeartbeats 400000 in
theorem cmpByte_any(a b:UInt8)(w:World):
 Calls Tryz.prog 175 #[.int .u8 a.toNat,.int .u8 b.toNat] w fun e w'=>e=.returned (.int .i64 (Nm.cmpI a.toNat b.toNat))∧w'=w:=by
 have ha:((a.toNat:Int) != (a.toNat:Int))=false:=by simp
 have hb:((b.toNat:Int) != (b.toNat:Int))=false:=by simp
 by_cases h1:(a.toNat:Int)<(b.toNat:Int)
 ·have HC:=Nm.hide (Nm.cmpI_lt h1);have d1:decide ((a.toNat:Int)<(b.toNat:Int))=true:=by simpa using h1
  go_enter Tryz.func175,Tryz.ntmps175;go_wp2;go_ret;rw [HC.out];exact⟨rfl,rfl⟩
 ·have d1:decide ((a.toNat:Int)<(b.toNat:Int))=false:=by simpa using h1
  by_cases h2:(b.toNat:Int)<(a.toNat:Int)
  ·have HC:=Nm.hide (Nm.cmpI_gt h2);have d2:decide ((b.toNat:Int)<(a.toNat:Int))=true:=by simpa using h2
   go_enter Tryz.func175,Tryz.ntmps175;go_wp2;go_ret;rw [HC.out];exact⟨rfl,rfl⟩
  ·have HC:=Nm.hide (Nm.cmpI_eq (show(a.toNat:Int)=(b.toNat:Int) by omega));have d2:decide ((b.toNat:Int)<(a.toNat:Int))=false:=by simpa using h2
   go_enter Tryz.func175,Tryz.ntmps175;go_wp2;go_ret;rw [HC.out];exact⟨rfl,rfl⟩
set_option maxRecDepth 100000 in
set_option maxHeartbeats 400000 in
theorem cmpInt_any(a b:Int)(w:World):
 Calls Tryz.prog 144 #[.int .i64 a,.int .i64 b] w fun e w'=>e=.returned (.int .i64 (Nm.cmpI a b))∧w'=w:=by
 have ha:(a != a)=false:=by simp
 have hb:(b != b)=false:=by simp
 by_cases h1:a<b
 ·have HC:=Nm.hide (Nm.cmpI_lt h1);go_enter Tryz.func144,Tryz.ntmps144;go_wp2;go_ret;rw [HC.out];exact⟨rfl,rfl⟩
 ·by_cases h2:b<a
  ·have HC:=Nm.hide (Nm.cmpI_gt h2);go_enter Tryz.func144,Tryz.ntmps144;go_wp2;go_ret;rw [HC.out];exact⟨rfl,rfl⟩
  ·have HC:=Nm.hide (Nm.cmpI_eq (show a=b by omega));go_enter Tryz.func144,Tryz.ntmps144;go_wp2;go_ret;rw [HC.out];exact⟨rfl,rfl⟩
set_option maxRecDepth 100000 in
set_option maxHeartbeats 800000 in
theorem compareFolded_any(a b:ByteArray)(w:World)(ha:a.size<=1000000000):
 Calls Tryz.prog 143 #[.string a,.string b] w fun e w'=>e=.returned (.int .i64 (Nm.ordS a b))∧∃ m,w'=w.drewN m:=by
 go_enter Tryz.func143,Tryz.ntmps143;go_wp2
 go_loopw [5] (fun i wr=>∃ k:Nat,k<=a.size∧k<=b.size∧i=.int .i64 k∧Hid ((Nm.smallL a.data.toList).take k=(Nm.smallL b.data.toList).take k)∧∃ m,Hid (wr=w.drewN m))
  (fun i _=>a.size-(intOf i).toNat)
 case atStart=>exact⟨0,Nat.zero_le _,Nat.zero_le _,rfl,by show _=_;simp,0,rfl⟩
 case round=>
  obtain⟨k,hka,hkb,rfl,HT,m,HW⟩:=hrel
  by_cases h1:k<a.size∧k<b.size
  ·obtain⟨h1,h2⟩:=h1;have d1:decide ((k:Int)<(a.size:Int))=true:=by simp;omega
   have d2:decide ((k:Int)<(b.size:Int))=true:=by simp;omega
   have i1:(k:Int)<(a.size:Int):=by omega
   have i2:(k:Int)<(b.size:Int):=by omega
   by_cases he:Nm.low a[k]=Nm.low b[k]
   ·have HN:Hid ((Nm.smallL a.data.toList).take (k+1)=(Nm.smallL b.data.toList).take (k+1)):=Nm.take_snoc_eq HT.out (Nm.small_get h1) (Nm.small_get h2) he;have hc:(Nm.cmpI (Nm.low a[k]).toNat (Nm.low b[k]).toNat != 0)=false:=by rw [Nm.cmpI_eq (by rw [he])];rfl
    clear he;go_wp2;go_quiet (first|(go_at_call 133;exact Calls.quiet_of_same (foldByte_any _ _))|(go_at_call 175;exact Calls.quiet_of_same (cmpByte_any _ _ _)))
    go_wp2;go_roundw
    case rel=>exact⟨k+1,by omega,by omega,by go_num,HN,_,by show _=_;rw [HW.out,World.drewN_drewN]⟩
    case measure=>simp [intOf];omega
   ·have HO:Hid (Nm.ordS a b=Nm.cmpI (Nm.low a[k]).toNat (Nm.low b[k]).toNat):=Nm.ord_at k _ _ _ _ HT.out (Nm.small_get h1) (Nm.small_get h2) he
    have hc:(Nm.cmpI (Nm.low a[k]).toNat (Nm.low b[k]).toNat != 0)=true:=by
     rw [bne_iff_ne];exact Nm.cmpI_ne (fun e=>he (UInt8.toNat_inj.1 (by omega)))
    clear he;go_wp2;go_quiet (first|(go_at_call 133;exact Calls.quiet_of_same (foldByte_any _ _))|(go_at_call 175;exact Calls.quiet_of_same (cmpByte_any _ _ _)))
    go_wp2;go_ret;rw [HO.out];exact⟨rfl,_,by rw [HW.out,World.drewN_drewN]⟩
  ·have HO:Hid (Nm.ordS a b=Nm.cmpI a.size b.size):=by
    show _=_
    have:=Nm.ord_end k _ _ HT.out (by rw [Nm.smallL_length];omega) (by rw [Nm.smallL_length];omega) (by rw [Nm.smallL_length,Nm.smallL_length];omega);rw [Nm.smallL_length,Nm.smallL_length] at this;exact this
   by_cases h2:k<a.size
   ·have g2:b.size<=k:=by omega
    have d2:decide (k<b.size)=false:=by simp;omega
    clear h1;go_wp2_with fail
    refine(cmpInt_any _ _ _).mono ?_;rintro e w3 ⟨rfl,rfl⟩;go_wp2;go_ret;rw [HO.out];exact⟨rfl,_,HW.out⟩
   ·have g2:a.size<=k:=by omega
    have d2:decide (k<a.size)=false:=by simp;omega
    clear h1;go_wp2_with fail
    refine(cmpInt_any _ _ _).mono ?_;rintro e w3 ⟨rfl,rfl⟩;go_wp2;go_ret;rw [HO.out];exact⟨rfl,_,HW.out⟩
end Go.Proofs.YtfmolgdfjklmpaaGreat
namespace Go.Proofs.YtfmolgdfjklmpaaGreat
open Go.RowKit
set_option linter.unusedVariables false
theorem run_copy_rowK{P:Program}(w:World)(dT sT ty elem:TypeId)(g o dLen dCap:Nat)(a:Addr)(sLen sCap:Nat)(cur:Array Value)(t:TypeId)(cs:List Value)(sz:Nat)
 (hu:P.underlying dT=some (.slice elem)) (hs:(P.info? elem).map (·.size)=some sz)
 (hg:w.heap[g]? =some (.cells cur t (0,0))) (hn:cs.length=Nat.min sLen dLen*sz)
 (hsrc:∀ j v,cs[j]? =some v->w.cell? (a.add j)=some v) (hfit:o+cs.length<=cur.size) (h1:∀ v∈cs,v.oneCell'=true):
 (Builtin.copy_ #[dT,sT] ty #[.slice (some ⟨g,o,none⟩) dLen dCap,.slice (some a) sLen sCap]).run P w=
  .ok (goInt (Nat.min sLen dLen)) (w.setRow g (cur.toList.take o++cs++cur.toList.drop (o+cs.length)).toArray):=by
 have hl:=run_loadCells_list (P:=P) w a cs hsrc;have hst:=run_storeCells_at P g o t cs 0 cur w hg (by simpa using hfit) h1
 cases hq:P.info? elem with
 |none=>simp [hq] at hs
 |some i=>
  have hi:i.size=sz:=by simpa [hq] using hs
  simp [Builtin.copy_,run_underlying hu,Builtin.lenOf,Builtin.firstCells,sizeOf,typeInfo,hq,hi,<- hn,hl,hst]
theorem wpList_app_ranT{P:Program}{ops:Array Oper}{rest:List Oper}{o:Oper}{a:Act}{w:World}{Q:Exit->Act->World->Prop}(hgd:o.guard=none)(s x:Operand)(t t2:TypeId)
 (ho:o.op=.call {callee:=.builtin .append,args:=#[s,x],argTypes:=#[t,t2]}) (v u v':Value) (w':World) (hs:a.eval s=v) (hx:a.eval x=u)
 (hr:(Builtin.append_ #[t,t2] o.type #[v,u]).run P w=.ok v' w') (h:wpList P ops Q rest (a.put o.dst v') w'):wpList P ops Q (o::rest) a w:=
 wpList_plain hgd fun _ hK=>by
  unfold Oper.wp execOp;simp only [ho,resolve,invoke,builtin,Sem.run_bind,Sem.run_pure,Result.andThen_ok,List.map_toArray,List.map_cons,List.map_nil,hs,hx,hr];exact hK _ _ h
theorem setRow_blk{w:World}{g:Nat}{cur:Array Value}{t:TypeId}(hg:Blk w g cur t)(cs:Array Value):Blk (w.setRow g cs) g cs t:=by
 unfold Blk at*;have hlt:=(Array.getElem?_eq_some_iff.1 hg).1;have he:=(Array.getElem?_eq_some_iff.1 hg).2;simp [World.setRow,Array.getElem?_modify,hg]
theorem setRow_size(w:World)(g:Nat)(cs:Array Value):(w.setRow g cs).heap.size=w.heap.size:=by simp [World.setRow]
theorem setRow_grown(w:World)(g:Nat)(cs:Array Value):w.grownBy (w.setRow g cs) (some g):=
 ⟨rfl,rfl,rfl,by rw [setRow_size];exact Nat.le_refl _,fun k hk hne=>setRow_other w g k cs (fun e=>hne (by rw [e]))⟩
theorem own_of_blk{w:World}{B e s g n cap:Nat}{cur:Array Value}{xs:List Value}(hg:Blk w g cur e)(hB:B<=g)(hn:n<=cap)(hm:cap<=maxLen)(hs:cur.size=cap*s)(ht:cur.toList.take (n*s)=xs):w.ownsRow B e s (.slice (some ⟨g,0,none⟩) n cap) n xs:=by
 refine⟨?_,.inr ⟨g,cap,cur,rfl,hB,hg,hn,hm,hs,ht⟩⟩;rw [<- ht,List.length_take,Array.length_toList,hs,Nat.min_eq_left (Nat.mul_le_mul_right _ hn)]
theorem ins_room{cur xs:List Value}{i n cap:Nat}(x0 x1:Value)(hcl:cur.length=cap*2)(ht:cur.take (n*2)=xs)(hi:i<n)(hr:n+1<=cap):
 ∀ c1,c1=cur.take ((i+1)*2)++xs.drop (i*2)++cur.drop ((i+1)*2+(xs.drop (i*2)).length)->c1.length=cap*2∧∀ c2,c2=c1.take (i*2)++[x0,x1]++c1.drop (i*2+[x0,x1].length)->c2.length=cap*2∧c2.take ((n+1)*2)=xs.take (i*2)++[x0,x1]++xs.drop (i*2):=by
 intro c1 h1;have hxl:xs.length=n*2:=by rw [<- ht,List.length_take];omega
 have hdl:(xs.drop (i*2)).length=(n-i)*2:=by rw [List.length_drop,hxl];omega
 have htl:(cur.take ((i+1)*2)).length=(i+1)*2:=by rw [List.length_take];omega
 have hl1:c1.length=cap*2:=by rw [h1];simp only [List.length_append,htl,hdl,List.length_drop];omega
 refine⟨hl1,fun c2 h2=>?_⟩
 have e1:c1.take (i*2)=xs.take (i*2):=by
  rw [h1,List.append_assoc,List.take_append,htl,List.take_take,show i*2-(i+1)*2=0 by omega,List.take_zero,List.append_nil,<- ht,List.take_take];congr 1;omega
 have e2:c1.drop (i*2+[x0,x1].length)=xs.drop (i*2)++cur.drop ((i+1)*2+(xs.drop (i*2)).length):=by
  rw [show i*2+[x0,x1].length=(i+1)*2 by simp;omega,h1,List.append_assoc,List.drop_append,htl,Nat.sub_self,List.drop_zero,List.drop_of_length_le (Nat.le_of_eq htl),List.nil_append]
 have hxt:(xs.take (i*2)).length=i*2:=by rw [List.length_take,hxl];omega
 rw [e1,e2] at h2;have hl3:(xs.take (i*2)++[x0,x1]++xs.drop (i*2)).length=(n+1)*2:=by simp only [List.length_append,hxt,hdl,List.length_cons,List.length_nil];omega
 have e3:c2=(xs.take (i*2)++[x0,x1]++xs.drop (i*2))++cur.drop ((i+1)*2+(xs.drop (i*2)).length):=by rw [h2];simp only [List.append_assoc]
 refine⟨?_,?_⟩
 ·rw [e3,List.length_append,hl3,List.length_drop,hcl,hdl];omega
 ·rw [e3,<- hl3,List.take_left]
theorem ins_grow{xs z:List Value}{i n cap:Nat}(x0 x1:Value)(hxl:xs.length=n*2)(hi:i<n)(hr:n+1<=cap)(hz:(xs.take (i*2)++z).length=cap*2):
 ∀ c1,c1=(xs.take (i*2)++z).take (i*2)++[x0,x1]++(xs.take (i*2)++z).drop (i*2+[x0,x1].length)->c1.length=cap*2∧∀ c2,c2=c1.take ((i+1)*2)++xs.drop (i*2)++c1.drop ((i+1)*2+(xs.drop (i*2)).length)->c2.length=cap*2∧c2.take ((n+1)*2)=xs.take (i*2)++[x0,x1]++xs.drop (i*2):=by
 intro c1 h1;have hxt:(xs.take (i*2)).length=i*2:=by rw [List.length_take,hxl];omega
 have hdl:(xs.drop (i*2)).length=(n-i)*2:=by rw [List.length_drop,hxl];omega
 have e1:(xs.take (i*2)++z).take (i*2)=xs.take (i*2):=by
  have:=List.take_left (l₁:=xs.take (i*2)) (l₂:=z);rw [hxt] at this;exact this
 rw [e1] at h1
 have hl1:c1.length=cap*2:=by
  rw [h1];simp only [List.length_append,hxt,List.length_drop,List.length_cons,List.length_nil] at hz ⊢;omega
 refine⟨hl1,fun c2 h2=>?_⟩;have hl2:(xs.take (i*2)++[x0,x1]).length=(i+1)*2:=by simp only [List.length_append,hxt,List.length_cons,List.length_nil];omega
 have e2:c1.take ((i+1)*2)=xs.take (i*2)++[x0,x1]:=by rw [h1,<- hl2,List.take_left]
 rw [e2] at h2;have hl3:(xs.take (i*2)++[x0,x1]++xs.drop (i*2)).length=(n+1)*2:=by rw [List.length_append,hl2,hdl];omega
 refine⟨?_,?_⟩
 ·rw [h2,List.length_append,hl3,List.length_drop,hl1,hdl];omega
 ·rw [h2,<- hl3,List.take_left]
end Go.Proofs.YtfmolgdfjklmpaaGreat
namespace Go.Proofs.YtfmolgdfjklmpaaGreat
open Go.RowKit
set_option maxRecDepth 100000 in
set_option maxHeartbeats 800000 in
theorem l02Alnum_any(c:UInt8)(w:World):
 Calls Tryz.prog 104 #[.int .u8 c.toNat] w fun e w'=>e=.returned (.bool (Dt.alnumB c))∧w'=w:=by
 have key:∀ b,Dt.alnumB c=b->Hid (Dt.alnumB c=b):=fun _ h=>h
 by_cases h1:48<=c.toNat
 ·by_cases h2:c.toNat<=57
  ·have HA:=key true (by simp [Dt.alnumB,h1,h2]);have d1:(48:Int)<=(c.toNat:Int):=by omega
   have d2:(c.toNat:Int)<=57:=by omega
   go_enter Tryz.func104,Tryz.ntmps104;go_wp2;go_ret;rw [HA.out];exact⟨rfl,rfl⟩
  ·by_cases h3:97<=c.toNat
   ·by_cases h4:c.toNat<=122
    ·have HA:=key true (by simp [Dt.alnumB,h1,h2,h3,h4]);have d1:(48:Int)<=(c.toNat:Int):=by omega
     have d2:(57:Int)<(c.toNat:Int):=by omega
     have e2:decide ((c.toNat:Int)<=57)=false:=by simp;omega
     have d3:(97:Int)<=(c.toNat:Int):=by omega
     have d4:(c.toNat:Int)<=122:=by omega
     go_enter Tryz.func104,Tryz.ntmps104;go_wp2;go_ret;rw [HA.out];exact⟨rfl,rfl⟩
    ·have HA:=key false (by simp [Dt.alnumB];omega);have d1:(48:Int)<=(c.toNat:Int):=by omega
     have d2:(57:Int)<(c.toNat:Int):=by omega
     have e2:decide ((c.toNat:Int)<=57)=false:=by simp;omega
     have d3:(97:Int)<=(c.toNat:Int):=by omega
     have d4:(122:Int)<(c.toNat:Int):=by omega
     have e4:decide ((c.toNat:Int)<=122)=false:=by simp;omega
     have d5:(65:Int)<=(c.toNat:Int):=by omega
     have d6:(90:Int)<(c.toNat:Int):=by omega
     have e6:decide ((c.toNat:Int)<=90)=false:=by simp;omega
     go_enter Tryz.func104,Tryz.ntmps104;go_wp2;go_ret;rw [HA.out];exact⟨rfl,rfl⟩
   ·by_cases h5:65<=c.toNat∧c.toNat<=90
    ·have HA:=key true (by simp [Dt.alnumB];omega);have d1:(48:Int)<=(c.toNat:Int):=by omega
     have d2:(57:Int)<(c.toNat:Int):=by omega
     have e2:decide ((c.toNat:Int)<=57)=false:=by simp;omega
     have d3:(c.toNat:Int)<97:=by omega
     have d5:(65:Int)<=(c.toNat:Int):=by omega
     have d6:(c.toNat:Int)<=90:=by omega
     go_enter Tryz.func104,Tryz.ntmps104;go_wp2;go_ret;rw [HA.out];exact⟨rfl,rfl⟩
    ·have HA:=key false (by simp [Dt.alnumB];omega);have d1:(48:Int)<=(c.toNat:Int):=by omega
     have d2:(57:Int)<(c.toNat:Int):=by omega
     have e2:decide ((c.toNat:Int)<=57)=false:=by simp;omega
     have d3:(c.toNat:Int)<97:=by omega
     by_cases h6:65<=c.toNat
     ·have d5:(65:Int)<=(c.toNat:Int):=by omega
      have d6:(90:Int)<(c.toNat:Int):=by omega
      have e6:decide ((c.toNat:Int)<=90)=false:=by simp;omega
      go_enter Tryz.func104,Tryz.ntmps104;go_wp2;go_ret;rw [HA.out];exact⟨rfl,rfl⟩
     ·have d5:(c.toNat:Int)<65:=by omega
      go_enter Tryz.func104,Tryz.ntmps104;go_wp2;go_ret;rw [HA.out];exact⟨rfl,rfl⟩
 ·have HA:=key false (by simp [Dt.alnumB];omega);have d1:(c.toNat:Int)<48:=by omega
  have d3:(c.toNat:Int)<97:=by omega
  have d5:(c.toNat:Int)<65:=by omega
  go_enter Tryz.func104,Tryz.ntmps104;go_wp2;go_ret;rw [HA.out];exact⟨rfl,rfl⟩
set_option maxRecDepth 100000 in
set_option maxHeartbeats 800000 in
theorem l02Form_any(t:Int)(w:World):
 Calls Tryz.prog 62 #[.int .i64 t] w fun e w'=>e=.returned (.string (Dt.formS t))∧w'=w:=by
 by_cases h:t=1∨t=2∨t=5∨t=6∨t=12∨t=13∨t=15∨t=16∨t=28∨t=33∨t=35∨t=39∨t=47∨t=257
 ·rcases h with rfl|rfl|rfl|rfl|rfl|rfl|rfl|rfl|rfl|rfl|rfl|rfl|rfl|rfl
  all_goals
   go_enter Tryz.func62,Tryz.ntmps62;go_wp2;go_ret;exact⟨rfl,rfl⟩
 ·have HA:Hid (Dt.formS t=⟨#[42]⟩):=by
   show _=_
   unfold Dt.formS;simp only [show ¬t=1 by omega,show ¬(t=2∨t=5∨t=12∨t=39) by omega,show ¬t=6 by omega,show ¬t=13 by omega,show ¬t=15 by omega,show ¬t=16 by omega,show ¬t=28 by omega,show ¬t=33 by omega,show ¬t=35 by omega,show ¬t=47 by omega,show ¬t=257 by omega,if_false]
  have b1:(t==1)=false:=by rw [beq_eq_false_iff_ne];omega
  have b2:(t==2)=false:=by rw [beq_eq_false_iff_ne];omega
  have b3:(t==5)=false:=by rw [beq_eq_false_iff_ne];omega
  have b4:(t==6)=false:=by rw [beq_eq_false_iff_ne];omega
  have b5:(t==12)=false:=by rw [beq_eq_false_iff_ne];omega
  have b6:(t==13)=false:=by rw [beq_eq_false_iff_ne];omega
  have b7:(t==15)=false:=by rw [beq_eq_false_iff_ne];omega
  have b8:(t==16)=false:=by rw [beq_eq_false_iff_ne];omega
  have b9:(t==28)=false:=by rw [beq_eq_false_iff_ne];omega
  have b10:(t==33)=false:=by rw [beq_eq_false_iff_ne];omega
  have b11:(t==35)=false:=by rw [beq_eq_false_iff_ne];omega
  have b12:(t==39)=false:=by rw [beq_eq_false_iff_ne];omega
  have b13:(t==47)=false:=by rw [beq_eq_false_iff_ne];omega
  have b14:(t==257)=false:=by rw [beq_eq_false_iff_ne];omega
  clear h;go_enter Tryz.func62,Tryz.ntmps62;go_wp2;go_ret;rw [HA.out];exact⟨rfl,rfl⟩
theorem txt_short{s:ByteArray}(h:0<s.size)(h1:s.size<s[0].toNat+1):Dt.txtS s=ByteArray.empty:=by
 rw [Dt.txtS,dif_pos h,if_neg (by omega)]
theorem txt_good{s:ByteArray}(h:0<s.size)(h1:s[0].toNat+1<=s.size):Dt.txtS s=s.extract 0 (s[0].toNat+1):=by
 rw [Dt.txtS,dif_pos h,if_pos h1]
theorem txt_none{s:ByteArray}(h:s.size=0):Dt.txtS s=ByteArray.empty:=by
 rw [Dt.txtS,dif_neg (by omega)]
set_option maxRecDepth 100000 in
set_option maxHeartbeats 800000 in
theorem l02Text_any(s:ByteArray)(w:World)(hs:s.size<=maxLen):
 Calls Tryz.prog 103 #[.string s] w fun e w'=>e=.returned (.string (Dt.txtS s))∧w'=w:=by
 unfold maxLen at hs
 by_cases h0:s.size=0
 ·have HA:=Nm.hide (txt_none h0)
  have he:s=ByteArray.empty:=by
   apply ByteArray.ext;exact Array.eq_empty_of_size_eq_zero h0
  subst he;go_enter Tryz.func103,Tryz.ntmps103;go_wp2;go_ret;rw [HA.out];exact⟨rfl,rfl⟩
 ·have hp:0<s.size:=by omega
  have hp':(0:Int)<(s.size:Int):=by omega
  have he:(s.toList==[])=false:=by
   rw [beq_eq_false_iff_ne,ByteArray.toList_eq];intro e;have h9:=congrArg List.length e;rw [Array.length_toList] at h9;exact h0 h9
  have hc:(s[0].toNat:Int)<256:=by have:=s[0].toNat_lt;omega
  by_cases h1:s.size<s[0].toNat+1
  ·have HA:=Nm.hide (txt_short hp h1);have h1':(s.size:Int)<(s[0].toNat:Int)+1:=by omega
   go_enter Tryz.func103,Tryz.ntmps103;go_wp2;go_ret;rw [HA.out];exact⟨rfl,rfl⟩
  ·have HA:=Nm.hide (txt_good hp (by omega));have h1':(s[0].toNat:Int)+1<=(s.size:Int):=by omega
   go_enter Tryz.func103,Tryz.ntmps103;go_wp2;go_ret;rw [HA.out];exact⟨rfl,rfl⟩
end Go.Proofs.YtfmolgdfjklmpaaGreat
namespace Go.Proofs.YtfmolgdfjklmpaaGreat
open Go.RowKit
theorem Tryz.infoU8s:(Tryz.prog.info? 5).map (fun i=>(i.zero,i.size,i.bytes))=some (some (.int .u8 0),1,1):=by kernel_rfl
theorem conv_nil(c:Nat)(W:World):(convert 22 9 (.slice (some ⟨c,0,none⟩) 0 0)).run Tryz.prog W=.ok (.string ByteArray.empty) W:=by
 exact run_convert_bytes_back W 22 9 5 ⟨c,0,none⟩ 0 [] Tryz.underlying22 Tryz.underlying5 Tryz.underlying9 (by intro j hj;simp at hj)
set_option maxRecDepth 100000 in
set_option maxHeartbeats 800000 in
theorem l01Small_any(s:ByteArray)(w:World)(hs:s.size<=1000000000):
 Calls Tryz.prog 61 #[.string s] w fun e w'=>e=.returned (.string (Nm.small s))∧Below w.heap.size w w':=by
 obtain⟨j0,hj,k0,k1,k2⟩:=info_parts Tryz.infoU8s
 by_cases hz:s.size=0
 ·have hc:=fun W=>conv_nil w.heap.size W
  have HE:Hid (Nm.small s=ByteArray.empty):=by
   show _=_
   apply Nm.ba_ext;rw [Nm.small_data,List.length_eq_zero_iff.1 (show s.data.toList.length=0 by simpa using hz)];rfl
  have hz':(s.size:Int)<=0:=by omega
  go_enter Tryz.func61,Tryz.ntmps61;go_wp2
  go_loop [3,4] (fun v i=>v=.slice (some ⟨w.heap.size,0,none⟩) 0 0∧i=.int .i64 0) (fun _ _=>0)
  case atStart=>exact⟨rfl,rfl⟩
  case round=>
   obtain⟨rfl,rfl⟩:=hrel;go_wp2;go_ret;rw [HE.out];exact⟨rfl,(Below.refl _ _).alloc (Nat.le_refl _) _⟩
 ·go_enter Tryz.func61,Tryz.ntmps61;go_wp2
  go_loopw [3,4] (fun v i wr=>∃ k:Nat,k<=s.size∧i=.int .i64 k∧wr.ownsRow w.heap.size 5 1 v k (Nm.bys (Nm.smallL (s.data.toList.take k)))∧Below w.heap.size w wr)
   (fun _ i _=>s.size-(intOf i).toNat)
  case atStart=>exact⟨0,Nat.zero_le _,rfl,World.ownsRow_made w #[] 0 (Nat.le_refl _) (by decide) rfl,(Below.refl _ _).alloc (Nat.le_refl _) _⟩
  case round=>
   obtain⟨k,hk,rfl,hown,hbel⟩:=hrel;have hsz:=hbel.size
   by_cases hlt:k<s.size
   ·have HS:=Nm.hide (Nm.smallL_step (Nm.get_data hlt));have hcl:(s[k].toNat:Int)<256:=by have:=s[k].toNat_lt;omega
    by_cases hup:65<=s[k].toNat∧s[k].toNat<=90
    ·have HL:=Nm.hide (Nm.low_up hup);have d1:decide ((65:Int)<=(s[k].toNat:Int))=true:=by simp;omega
     have d2:decide ((s[k].toNat:Int)<=90)=true:=by simp;omega
     have hb1:(s[k].toNat:Int)<=90:=by omega
     clear hup;go_wp2_with (at_builtin;refine wpList_append_own _ rfl (.tmp 24) (.tmp 26) 22 rfl w.heap.size 5 j0 (.int .u8 0) 1 1 Tryz.underlying22 hj k0 k1 k2 rfl (by decide) _ _ _ rfl (hown.alloc _) ⟨wr.heap.size,0,none⟩ 1 1 [.int .u8 ((s[k].toNat:Int)+32)] rfl rfl (cell_one_new _ _ _) (Nm.one_cell _ rfl) (by unfold maxLen;omega) (by omega) (by simp;omega) ?_;intro vb wb hown2 hgrow2 hnl2;clear hnl2;rw [<- HL.out] at hown2;have R2:=Nm.bys_step (x:=[Nm.low s[k]]) (by simp;omega) (hown.alloc _) (hbel.alloc hsz _) hown2 hgrow2;clear hown2 hgrow2)
     go_roundw
     case rel=>exact⟨k+1,by omega,by go_num,by rw [HS.out];exact R2.1,R2.2⟩
     case measure=>simp [intOf];omega
    ·have HL:=Nm.hide (Nm.low_id hup)
     by_cases hlo:65<=s[k].toNat
     ·have d1:decide ((65:Int)<=(s[k].toNat:Int))=true:=by simp;omega
      have d2:decide ((s[k].toNat:Int)<=90)=false:=by simp;omega
      clear hup;go_wp2_with (at_builtin;refine wpList_append_own _ rfl (.tmp 24) (.tmp 26) 22 rfl w.heap.size 5 j0 (.int .u8 0) 1 1 Tryz.underlying22 hj k0 k1 k2 rfl (by decide) _ _ _ rfl (hown.alloc _) ⟨wr.heap.size,0,none⟩ 1 1 [.int .u8 (s[k].toNat:Int)] rfl rfl (cell_one_new _ _ _) (Nm.one_cell _ rfl) (by unfold maxLen;omega) (by omega) (by simp;omega) ?_;intro vb wb hown2 hgrow2 hnl2;clear hnl2;have R2:=Nm.bys_step (x:=[s[k]]) (by simp;omega) (hown.alloc _) (hbel.alloc hsz _) hown2 hgrow2;clear hown2 hgrow2)
      go_roundw
      case rel=>exact⟨k+1,by omega,by go_num,by rw [HS.out,HL.out];exact R2.1,R2.2⟩
      case measure=>simp [intOf];omega
     ·have d1:decide ((65:Int)<=(s[k].toNat:Int))=false:=by simp;omega
      clear hup;go_wp2_with (at_builtin;refine wpList_append_own _ rfl (.tmp 24) (.tmp 26) 22 rfl w.heap.size 5 j0 (.int .u8 0) 1 1 Tryz.underlying22 hj k0 k1 k2 rfl (by decide) _ _ _ rfl (hown.alloc _) ⟨wr.heap.size,0,none⟩ 1 1 [.int .u8 (s[k].toNat:Int)] rfl rfl (cell_one_new _ _ _) (Nm.one_cell _ rfl) (by unfold maxLen;omega) (by omega) (by simp;omega) ?_;intro vb wb hown2 hgrow2 hnl2;clear hnl2;have R2:=Nm.bys_step (x:=[s[k]]) (by simp;omega) (hown.alloc _) (hbel.alloc hsz _) hown2 hgrow2;clear hown2 hgrow2)
      go_roundw
      case rel=>exact⟨k+1,by omega,by go_num,by rw [HS.out,HL.out];exact R2.1,R2.2⟩
      case measure=>simp [intOf];omega
   ·have hkl:k=s.size:=by omega
    subst hkl;obtain⟨g,cp,rfl,hcv⟩:=Nm.conv_own (P:=Tryz.prog) Tryz.underlying22 Tryz.underlying5 Tryz.underlying9 hown (by omega);rw [List.take_of_length_le (by simp)] at hcv;have he:(⟨(Nm.smallL s.data.toList).toArray⟩:ByteArray)=Nm.small s:=rfl;rw [he] at hcv;clear hown hlt he;go_wp2;go_ret;exact⟨rfl,hbel⟩
end Go.Proofs.YtfmolgdfjklmpaaGreat
namespace Go.Proofs.YtfmolgdfjklmpaaGreat
open Go.RowKit
set_option maxRecDepth 100000 in
set_option maxHeartbeats 800000 in
theorem l01Split_any(s:ByteArray)(w:World)(hs:s.size<=maxLen):
 Calls Tryz.prog 14 #[.string s] w fun e w'=>∃ v,e=.returned (.tuple #[v,.bool (Nm.split s).isSome])∧
  w'.ownsRow w.heap.size 9 1 v ((Nm.split s).getD []).length (((Nm.split s).getD []).map Value.string)∧Below w.heap.size w w':=by
 unfold maxLen at hs;obtain⟨i0,hi,hz0,hz1,hz2⟩:=info_parts Tryz.infoStr
 by_cases hlong:255<s.size
 ·have H:Hid (Nm.split s=none):=Nm.split_long s hlong;have hl:(255:Int)<(s.size:Int):=by omega
  go_enter Tryz.func14,Tryz.ntmps14;go_wp2;go_ret2;rw [H.out];exact⟨_,rfl,World.ownsRow_nil _ _ _ _,(Below.refl _ _).alloc (Nat.le_refl _) _⟩
 by_cases hshort:s.size=0
 ·have H:Hid (Nm.split s=none):=Nm.at_empty (Nm.at_start s (by omega)) hshort;have hl:(s.size:Int)<1:=by omega
  go_enter Tryz.func14,Tryz.ntmps14;go_wp2;go_ret2;rw [H.out];exact⟨_,rfl,World.ownsRow_nil _ _ _ _,(Below.refl _ _).alloc (Nat.le_refl _) _⟩
 ·have hl:(s.size:Int)<=255:=by omega
  have hl1:(1:Int)<=(s.size:Int):=by omega
  have hst:=Nm.at_start s (by omega);go_enter Tryz.func14,Tryz.ntmps14;go_wp2
  go_loopw [4,5] (fun v x wr=>∃ (ls:List ByteArray) (r:ByteArray),x=.string r∧Nm.At s ls r∧ls.length+r.size<=255∧wr.ownsRow w.heap.size 9 1 v ls.length (ls.map Value.string)∧Below w.heap.size w wr)
   (fun _ x _=>match x with|.string r=>r.size|_=>0)
  case atStart=>exact⟨[],s,rfl,hst,by simp;omega,World.ownsRow_made w #[] 0 (Nat.le_refl _) (by decide) rfl,(Below.refl _ _).alloc (Nat.le_refl _) _⟩
  case round=>
   obtain⟨ls,r,rfl,hat,hb,hown,hbel⟩:=hrel;clear hst
   by_cases h0:r.size=0
   ·have HN:Hid (Nm.split s=none):=Nm.at_empty hat h0;have e2:=Nm.tl_empty h0;go_wp2;go_ret2;rw [HN.out];exact⟨_,rfl,World.ownsRow_nil _ _ _ _,hbel⟩
   ·have hp:0<r.size:=by omega
    have hn:(r[0].toNat:Int)<256:=by have:=r[0].toNat_lt;omega
    have e2:=Nm.tl_not_empty hp
    by_cases h2:r[0].toNat=0
    ·have e3:((r[0].toNat:Int)==0)=true:=by simp [h2]
     by_cases h1:r.size=1
     ·have HN:Hid (Nm.split s=some ls):=Nm.at_end hat hp h2 h1;have e4:((r.size:Int) != 1)=false:=by simp [h1]
      clear h1 h2;go_wp2;go_ret2;rw [HN.out];exact⟨_,rfl,hown,hbel⟩
     ·have HN:Hid (Nm.split s=none):=Nm.at_zero hat hp h2 h1;have e4:((r.size:Int) != 1)=true:=by rw [bne_iff_ne];omega
      clear h1 h2;go_wp2;go_ret2;rw [HN.out];exact⟨_,rfl,World.ownsRow_nil _ _ _ _,hbel⟩
    ·have e3:((r[0].toNat:Int)==0)=false:=by rw [beq_eq_false_iff_ne];omega
     have e3':(0:Int)<(r[0].toNat:Int):=by omega
     by_cases h3:63<r[0].toNat
     ·have HN:Hid (Nm.split s=none):=Nm.at_bad hat hp h2 (.inl h3);have e4:(63:Int)<(r[0].toNat:Int):=by omega
      clear h2 h0 h3;go_wp2;go_ret2;rw [HN.out];exact⟨_,rfl,World.ownsRow_nil _ _ _ _,hbel⟩
     ·have e4:(r[0].toNat:Int)<=63:=by omega
      by_cases h4:r.size<r[0].toNat+1
      ·have HN:Hid (Nm.split s=none):=Nm.at_bad hat hp h2 (.inr h4);have e5:(r.size:Int)<(r[0].toNat:Int)+1:=by omega
       clear h2 h0 h3 h4;go_wp2;go_ret2;rw [HN.out];exact⟨_,rfl,World.ownsRow_nil _ _ _ _,hbel⟩
      ·have e5:(r[0].toNat:Int)+1<=(r.size:Int):=by omega
       have HN:Hid (Nm.At s (ls++[r.extract 1 (r[0].toNat+1)]) (r.extract (r[0].toNat+1) r.size)):=Nm.at_step hat hp h2 (by omega) (by omega);have hsz:=hbel.size;clear h2 h0 h3 h4;go_wp2_with (at_builtin;refine wpList_append_own _ rfl (.tmp 37) (.tmp 42) 46 rfl w.heap.size 9 i0 (.string ByteArray.empty) 1 16 Tryz.underlying46 hi hz0 hz1 hz2 rfl (by decide) _ _ _ rfl (hown.alloc _) ⟨wr.heap.size,0,none⟩ 1 1 [.string (r.extract 1 (r[0].toNat+1))] rfl rfl ?c1 ?c2 ?c3 ?c4 ?c5 ?_)
       case c1=>
        intro j u hj
        match j,hj with
        |0,hj=>simp at hj;subst hj;simp [Addr.add]
       case c2=>exact Nm.one_cell _ rfl
       case c3=>unfold maxLen;omega
       case c4=>omega
       case c5=>simp;omega
       ·intro v' w1 hown' hgrow _;have R:=own_step hsz hown hbel _ hown' hgrow;clear hown' hgrow hown hbel;go_wp2;go_roundw
        case rel=>exact⟨_,_,rfl,HN.out,by simp;omega,R.1,R.2⟩
        case measure=>simp;omega
end Go.Proofs.YtfmolgdfjklmpaaGreat
namespace Go.Proofs.YtfmolgdfjklmpaaGreat
open Go.RowKit
set_option linter.unusedVariables false
set_option maxRecDepth 100000 in
set_option maxHeartbeats 400000 in
theorem within_any(n m:Int)(w:World):Calls Tryz.prog 129 #[.int .i64 n,.int .i64 m] w fun e w'=>e=.returned (.bool (decide (0<=n)&&decide (n<=m)))∧w'=w:=by
 by_cases h0:0<=n
 ·by_cases h1:n<=m
  ·have e:(decide (0<=n)&&decide (n<=m))=true:=by simp [h0,h1]
   rw [e];clear e;go_enter Tryz.func129,Tryz.ntmps129;go_wp2;go_ret;exact⟨rfl,rfl⟩
  ·have h1':m<n:=by omega
   have e:(decide (0<=n)&&decide (n<=m))=false:=by simp [h0,h1]
   rw [e];clear e;go_enter Tryz.func129,Tryz.ntmps129;go_wp2;go_ret;exact⟨rfl,rfl⟩
 ·have h0':n<0:=by omega
  have e:(decide (0<=n)&&decide (n<=m))=false:=by simp [h0]
  rw [e];clear e;go_enter Tryz.func129,Tryz.ntmps129;go_wp2;go_ret;exact⟨rfl,rfl⟩
theorem Tryz.infoSet:(Tryz.prog.info? 53).map (fun i=>(i.zero,i.size,i.bytes))=some (some (.agg #[.string ByteArray.empty,.int .i64 0,.int .i64 0,.slice none 0 0]),4,56):=by kernel_rfl
theorem own_besideZ{W W1:World}{B e s m:Nat}{v:Value}{b:Option Nat}{xs:List Value}(h:W.ownsRow B e s v m xs)(hg:W.grownBy W1 b)(ha:∀ g,b=some g->v.ownBlock≠some g):W1.ownsRow B e s v m xs:=by
 refine h.kept hg ?_
 cases b with
 |none=>
  cases hv:v.ownBlock with
  |none=>exact .inl rfl
  |some k=>right;simp
 |some k=>right;exact ha k rfl
theorem own_kindsZ{W:World}{B e s m B' e' s' m':Nat}{v u:Value}{xs ys:List Value}(h:W.ownsRow B e s v m xs)(h':W.ownsRow B' e' s' u m' ys)(hne:e≠e'):∀ g,u.ownBlock=some g->v.ownBlock≠some g:=by
 intro g hu hv
 rcases h'.2 with⟨rfl,_⟩|⟨g',cap',cur',rfl,_,hh',_⟩
 ·cases hu
 ·rcases h.2 with⟨rfl,_⟩|⟨g2,cap2,cur2,rfl,_,hh,_⟩
  ·cases hv
  ·simp only [Value.ownBlock,Option.some.injEq] at hu hv;subst hu;subst hv;rw [hh] at hh';simp only [Option.some.injEq,Obj.cells.injEq] at hh';exact hne hh'.2.1
structure ZOwn (w:World) (B:Nat) (v:Value) (ps:List Zp):Prop where
 outer:w.ownsRow B 53 4 v ps.length (zpVs ps)
 inner:∀ (i:Nat) (p:Zp),ps[i]? =some p->w.ownsRow B 9 1 p.2 p.1.da.length (p.1.da.map Value.string)
 apart:∀ (i j:Nat) (p q:Zp),ps[i]? =some p->ps[j]? =some q->i≠j->∀ g,p.2.ownBlock=some g->q.2.ownBlock≠some g
theorem ZOwn.nil(w:World)(B:Nat):ZOwn w B (.slice none 0 0) []:=⟨World.ownsRow_nil _ _ _ _,by simp,by simp⟩
theorem ZOwn.below{w w':World}{B:Nat}{v:Value}{ps:List Zp}(h:ZOwn w B v ps)(hb:Below w.heap.size w w'):ZOwn w' B v ps:=
 ⟨own_below h.outer hb,fun i p hp=>own_below (h.inner i p hp) hb,h.apart⟩
theorem ZOwn.base{w:World}{B B':Nat}{v:Value}{ps:List Zp}(h:ZOwn w B v ps)(hb:B'<=B):ZOwn w B' v ps:=
 ⟨own_base h.outer hb,fun i p hp=>own_base (h.inner i p hp) hb,h.apart⟩
theorem ZOwn.beside{w w':World}{B:Nat}{v:Value}{ps:List Zp}{b:Option Nat}(h:ZOwn w B v ps)(hg:w.grownBy w' b)(hv:∀ g,b=some g->v.ownBlock≠some g)(hi:∀ g,b=some g->∀ p∈ps,p.2.ownBlock≠some g):ZOwn w' B v ps:=
 ⟨own_besideZ h.outer hg hv,fun i p hp=>own_besideZ (h.inner i p hp) hg (fun g e=>hi g e p (List.mem_of_getElem? hp)),h.apart⟩
theorem ZOwn.far{w:World}{B g i:Nat}{v y:Value}{ps:List Zp}(h:ZOwn w B v ps)(hg:g<B):ZOwn (w.setCell ⟨g,i,none⟩ y) B v ps:=
 ⟨own_far_lt h.outer hg,fun i p hp=>own_far_lt (h.inner i p hp) hg,h.apart⟩
theorem snoc_cases{α:Type}{xs:List α}{y x:α}{i:Nat}(hx:(xs++[y])[i]? =some x):(i<xs.length∧xs[i]? =some x)∨(i=xs.length∧x=y):=by
 by_cases hi:i<xs.length
 ·rw [List.getElem?_append_left hi] at hx;exact .inl ⟨hi,hx⟩
 ·rw [List.getElem?_append_right (by omega)] at hx
  have h0:i-xs.length=0:=by
   rcases Nat.eq_zero_or_pos (i-xs.length) with h|h
   ·exact h
   ·rw [List.getElem?_eq_none (by simp;omega)] at hx;cases hx
  rw [h0] at hx;simp at hx;exact .inr ⟨by omega,hx.symm⟩
theorem ZOwn.snoc{w w2:World}{B:Nat}{v v' u:Value}{s:Sz}{ps:List Zp}(h:ZOwn w B v ps)
 (hu:w.ownsRow B 9 1 u s.da.length (s.da.map Value.string)) (ha:∀ p∈ps,∀ g,p.2.ownBlock=some g->u.ownBlock≠some g)
 (ho:w2.ownsRow B 53 4 v' (ps.length+1) (zpVs ps++zpV (s,u))) (hg:w.grownBy w2 v.ownBlock):ZOwn w2 B v' (ps++[(s,u)]):=by
 have e:zpVs (ps++[(s,u)])=zpVs ps++zpV (s,u):=by simp [zpVs]
 refine⟨by rw [e];simpa using ho,fun i p hp=>?_,fun i j p q hp hq hne g hg1=>?_⟩
 ·rcases snoc_cases hp with⟨_,hp'⟩|⟨_,rfl⟩
  ·have:=h.inner i p hp';exact own_besideZ this hg (own_kindsZ this h.outer (by decide))
  ·exact own_besideZ hu hg (own_kindsZ hu h.outer (by decide))
 ·rcases snoc_cases hp with⟨hi,hp'⟩|⟨hi,rfl⟩<;>rcases snoc_cases hq with⟨hj,hq'⟩|⟨hj,rfl⟩
  ·exact h.apart i j p q hp' hq' hne g hg1
  ·exact ha p (List.mem_of_getElem? hp') g hg1
  ·intro e;exact ha q (List.mem_of_getElem? hq') g e hg1
  ·omega
theorem ZOwn.more{w w1:World}{B g cap:Nat}{u u':Value}{s:Sz}{d:ByteArray}{ps:List Zp}(h:ZOwn w B (.slice (some ⟨g,0,none⟩) (ps.length+1) cap) (ps++[(s,u)]))
 (ho:w1.ownsRow B 9 1 u' (s.da.length+1) (s.da.map Value.string++[.string d])) (hg:w.grownBy w1 u.ownBlock) (hat:u'.ownBlock=u.ownBlock∨∀ g,u'.ownBlock=some g->w.heap.size<=g):
 ZOwn (w1.setCell ⟨g,ps.length*4+3,none⟩ u') B (.slice (some ⟨g,0,none⟩) (ps.length+1) cap) (ps++[({s with da:=s.da++[d]},u')]):=by
 have hlast:(ps++[(s,u)])[ps.length]? =some (s,u):=by simp
 have hiL:=h.inner _ _ hlast
 have o1:w1.ownsRow B 53 4 (.slice (some ⟨g,0,none⟩) (ps.length+1) cap) (ps.length+1) (zpVs (ps++[(s,u)])):=by
  have:=h.outer;rw [List.length_append] at this;exact own_besideZ this hg (own_kindsZ this hiL (by decide))
 have hlt:∀ (i:Nat) (p:Zp),ps[i]? =some p->(ps++[(s,u)])[i]? =some p:=fun i p hp=>by rw [List.getElem?_append_left (List.getElem?_eq_some_iff.1 hp).1];exact hp
 have hin:∀ (i:Nat) (p:Zp),ps[i]? =some p->w1.ownsRow B 9 1 p.2 p.1.da.length (p.1.da.map Value.string):=by
  intro i p hp;have hpl:=(List.getElem?_eq_some_iff.1 hp).1;exact own_besideZ (h.inner i p (hlt i p hp)) hg (fun g' e e'=>h.apart i ps.length p (s,u) (hlt i p hp) hlast (by omega) g' e' e)
 have hapL:∀ (i:Nat) (p:Zp),ps[i]? =some p->∀ g,p.2.ownBlock=some g->u'.ownBlock≠some g:=by
  intro i p hp g' e e';have hpl:=(List.getElem?_eq_some_iff.1 hp).1
  rcases hat with h1|h1
  ·rw [h1] at e';exact h.apart i ps.length p (s,u) (hlt i p hp) hlast (by omega) g' e e'
  ·have h2:=h1 g' e';have h3:=((h.inner i p (hlt i p hp)).lt g' e).2;omega
 have e1:(zpVs (ps++[(s,u)])).set (ps.length*4+3) u'=zpVs (ps++[({s with da:=s.da++[d]},u')]):=by
  rw [zpVs_app,zpVs_app,List.set_append_right _ _ (by rw [zpVs_len];omega),zpVs_len,show ps.length*4+3-ps.length*4=3 by omega];rfl
 have hst:=o1.stored (ps.length*4+3) u';rw [e1] at hst;have far:∀ {v:Value} {n:Nat} {xs:List Value},w1.ownsRow B 9 1 v n xs->(w1.setCell ⟨g,ps.length*4+3,none⟩ u').ownsRow B 9 1 v n xs:=fun hx=>own_far hx (own_kindsZ hx o1 (by decide) g rfl)
 refine⟨by simpa using hst.1,fun i p hp=>?_,fun i j p q hp hq hne g' hg1=>?_⟩
 ·rcases snoc_cases hp with⟨_,hp'⟩|⟨_,rfl⟩
  ·exact far (hin i p hp')
  ·have:=far ho;simpa using this
 ·rcases snoc_cases hp with⟨hi,hp'⟩|⟨hi,rfl⟩<;>rcases snoc_cases hq with⟨hj,hq'⟩|⟨hj,rfl⟩
  ·exact h.apart i j p q (hlt i p hp') (hlt j q hq') hne g' hg1
  ·exact hapL i p hp' g' hg1
  ·intro e;exact hapL j q hq' g' e hg1
  ·omega
end Go.Proofs.YtfmolgdfjklmpaaGreat
namespace Go.Proofs.YtfmolgdfjklmpaaGreat
open Go
set_option linter.unusedVariables false
theorem step_append_own{P:Program}{ops:Array Oper}{o:Oper}{a:Act}{w:World}{K:Act->World->Prop}{Q:Exit->Act->World->Prop}{E:Prop}(hgd:o.guard=none)(s x:Operand)(t:TypeId)
 (ho:o.op=.call {callee:=.builtin .append,args:=#[s,x],argTypes:=#[t,t]})
 (base:Nat) (e:TypeId) (i:TypeInfo) (z:Value) (size bytes:Nat) (ht:P.underlying t=some (.slice e)) (hi:P.info? e=some i) (hz:i.zero=some z)
 (hsize:i.size=size) (hby:i.bytes=bytes) (hzs:z.cells.size=size) (hsz:0<size)
 (v:Value) (n:Nat) (xs:List Value) (hs:a.eval s=v) (hown:w.ownsRow base e size v n xs)
 (ad:Addr) (m c:Nat) (news:List Value) (hx:a.eval x=.slice (some ad) m c) (hl:news.length=m*size) (hnews:∀ j u,news[j]? =some u->w.cell? (ad.add j)=some u) (h1:∀ u∈news,u.oneCell'=true)
 (h63:n+m<=maxLen) (hbytes:(n+m)*bytes<=140737488355328) (hbase:base<=w.heap.size)
 (h:∀ v' w',w'.ownsRow base e size v' (n+m) (xs++news)->w.grownBy w' v.ownBlock->(v'=.slice none 0 0↔v=.slice none 0 0∧m=0)->K (a.put o.dst v') w'):
 if Region.wanted o (yielded ops a.tmps)=true then Oper.wp P o a w K Q else E:=by
 have hw:Region.wanted o (yielded ops a.tmps)=true:=by simp [Region.wanted,hgd]
 rw [if_pos hw];exact wp_append_own w s x t ho base e i z size bytes ht hi hz hsize hby hzs hsz v n xs hs hown ad m c news hx hl hnews h1 h63 hbytes hbase h
end Go.Proofs.YtfmolgdfjklmpaaGreat
namespace Go.Proofs
open Go.Shelf
def Tryz.lays190_ren:Go.Shelf.Ren:=⟨fun|190=>93|125=>137|258=>136|128=>171|129=>172|302=>162|303=>163|304=>164|305=>165|306=>166|307=>167|308=>168|309=>169|310=>170|333=>189|329=>190|330=>191|334=>192|335=>193|336=>194|344=>207|n=>n,fun|31=>46|9=>9|3=>3|46=>104|0=>0|51=>231|53=>61|4=>4|183=>225|182=>224|131=>209|5=>5|218=>255|222=>259|228=>271|229=>272|n=>n,fun|n=>n⟩
theorem Tryz.lays190:Go.Proofs.Lays.n190 Tryz.prog Tryz.lays190_ren:={
 mixed:=by kernel_rfl
 f125:=Tryz.func137.trans (congrArg some (by kernel_rfl))
 f128:=Tryz.func171.trans (congrArg some (by kernel_rfl))
 f129:=Tryz.func172.trans (congrArg some (by kernel_rfl))
 f190:=Tryz.func93.trans (congrArg some (by kernel_rfl))
 f258:=Tryz.func136.trans (congrArg some (by kernel_rfl))
 f302:=Tryz.func162.trans (congrArg some (by kernel_rfl))
 f303:=Tryz.func163.trans (congrArg some (by kernel_rfl))
 f304:=Tryz.func164.trans (congrArg some (by kernel_rfl))
 f305:=Tryz.func165.trans (congrArg some (by kernel_rfl))
 f306:=Tryz.func166.trans (congrArg some (by kernel_rfl))
 f307:=Tryz.func167.trans (congrArg some (by kernel_rfl))
 f308:=Tryz.func168.trans (congrArg some (by kernel_rfl))
 f309:=Tryz.func169.trans (congrArg some (by kernel_rfl))
 f310:=Tryz.func170.trans (congrArg some (by kernel_rfl))
 f329:=Tryz.func190.trans (congrArg some (by kernel_rfl))
 f330:=Tryz.func191.trans (congrArg some (by kernel_rfl))
 f333:=Tryz.func189.trans (congrArg some (by kernel_rfl))
 f334:=Tryz.func192.trans (congrArg some (by kernel_rfl))
 f335:=Tryz.func193.trans (congrArg some (by kernel_rfl))
 f336:=Tryz.func194.trans (congrArg some (by kernel_rfl))
 f344:=Tryz.func207.trans (congrArg some (by kernel_rfl))
 t0:=Tryz.underlying0
 a0:=Tryz.isAgg0
 z0:=Tryz.sizeOf0
 v0:=Tryz.zeroValue0
 t3:=Tryz.underlying3
 a3:=Tryz.isAgg3
 z3:=Tryz.sizeOf3
 v3:=Tryz.zeroValue3
 t4:=Tryz.underlying4
 a4:=Tryz.isAgg4
 z4:=Tryz.sizeOf4
 v4:=Tryz.zeroValue4
 t5:=Tryz.underlying5
 a5:=Tryz.isAgg5
 z5:=Tryz.sizeOf5
 v5:=Tryz.zeroValue5
 t9:=Tryz.underlying9
 a9:=Tryz.isAgg9
 z9:=Tryz.sizeOf9
 v9:=Tryz.zeroValue9
 t31:=Tryz.underlying46
 a31:=Tryz.isAgg46
 z31:=Tryz.sizeOf46
 v31:=Tryz.zeroValue46
 t46:=Tryz.underlying104
 a46:=Tryz.isAgg104
 z46:=Tryz.sizeOf104
 v46:=Tryz.zeroValue104
 t51:=Tryz.underlying231
 a51:=Tryz.isAgg231
 z51:=Tryz.sizeOf231
 v51:=Tryz.zeroValue231
 t53:=Tryz.underlying61
 a53:=Tryz.isAgg61
 z53:=Tryz.sizeOf61
 v53:=Tryz.zeroValue61
 t131:=Tryz.underlying209
 a131:=Tryz.isAgg209
 z131:=Tryz.sizeOf209
 v131:=Tryz.zeroValue209
 t182:=Tryz.underlying224
 a182:=Tryz.isAgg224
 z182:=Tryz.sizeOf224
 v182:=Tryz.zeroValue224
 t183:=Tryz.underlying225
 a183:=Tryz.isAgg225
 z183:=Tryz.sizeOf225
 v183:=Tryz.zeroValue225
 t218:=Tryz.underlying255
 a218:=Tryz.isAgg255
 z218:=Tryz.sizeOf255
 v218:=Tryz.zeroValue255
 t222:=Tryz.underlying259
 a222:=Tryz.isAgg259
 z222:=Tryz.sizeOf259
 v222:=Tryz.zeroValue259
 t228:=Tryz.underlying271
 a228:=Tryz.isAgg271
 z228:=Tryz.sizeOf271
 v228:=Tryz.zeroValue271
 t229:=Tryz.underlying272
 a229:=Tryz.isAgg272
 z229:=Tryz.sizeOf272
 v229:=Tryz.zeroValue272}
open Go.Sort Go.RowKit in
theorem Tryz.slices_Sort_string(blk off cap:Nat)(ss:List (List UInt8))(w:World)(hH:Holds encStr w blk off ss.toArray)(hblk:blk<w.heap.size)(hsz:ss.length<4611686018427387904):
 Calls Tryz.prog 93 #[.slice (some ⟨blk,off,none⟩) ss.length cap] w fun e w'=>
  e=.returned (.tuple #[])∧∃ n os,w'=grow (putRow encStr (Sort.ahead w n) blk off (ss.mergeSort fun x y=>decide (x<=y)).toArray) os:=Any.slices_Sort_string Tryz.lays190 blk off cap ss w hH hblk hsz
def Tryz.lays194_ren:Go.Shelf.Ren:=⟨fun|194=>94|n=>n,fun|31=>46|9=>9|3=>3|4=>4|0=>0|n=>n,fun|n=>n⟩
theorem Tryz.lays194:Go.Proofs.Lays.n194 Tryz.prog Tryz.lays194_ren:={
 mixed:=by kernel_rfl
 f194:=Tryz.func94.trans (congrArg some (by kernel_rfl))
 t0:=Tryz.underlying0
 a0:=Tryz.isAgg0
 z0:=Tryz.sizeOf0
 v0:=Tryz.zeroValue0
 t3:=Tryz.underlying3
 a3:=Tryz.isAgg3
 z3:=Tryz.sizeOf3
 v3:=Tryz.zeroValue3
 t4:=Tryz.underlying4
 a4:=Tryz.isAgg4
 z4:=Tryz.sizeOf4
 v4:=Tryz.zeroValue4
 t9:=Tryz.underlying9
 a9:=Tryz.isAgg9
 z9:=Tryz.sizeOf9
 v9:=Tryz.zeroValue9
 t31:=Tryz.underlying46
 a31:=Tryz.isAgg46
 z31:=Tryz.sizeOf46
 v31:=Tryz.zeroValue46}
open Go.RowKit Go.Lib Go.Sort in
theorem Tryz.slices_Compact_string_arr(blk off cap:Nat)(d:Array (List UInt8))(w:World)(hH:Holds encStr w blk off d)(hsz:d.size<=9223372036854775807)(hcap:d.size<=cap):
 Calls Tryz.prog 94 #[.slice (some ⟨blk,off,none⟩) d.size cap] w fun e w'=>e=.returned (.slice (some ⟨blk,off,none⟩) (compactUpTo d d.size).length cap)∧∃ q,w'=putRow encStr (Sort.ahead w q) blk off (compactUpTo d d.size++List.replicate (d.size-(compactUpTo d d.size).length) []).toArray:=Any.slices_Compact_string_arr Tryz.lays194 blk off cap d w hH hsz hcap
open Go.RowKit Go.Lib Go.Sort in
theorem Tryz.slices_Compact_string(blk off cap:Nat)(zs:List (List UInt8))(w:World)(hH:Holds encStr w blk off zs.toArray)(hsz:zs.length<=9223372036854775807)(hcap:zs.length<=cap):
 Calls Tryz.prog 94 #[.slice (some ⟨blk,off,none⟩) zs.length cap] w fun e w'=>e=.returned (.slice (some ⟨blk,off,none⟩) (Lib.compact zs).length cap)∧∃ q,w'=putRow encStr (Sort.ahead w q) blk off (Lib.compact zs++List.replicate (zs.length-(Lib.compact zs).length) []).toArray:=Any.slices_Compact_string Tryz.lays194 blk off cap zs w hH hsz hcap
open Go.RowKit Go.Lib Go.Sort in
theorem Tryz.slices_Compact_string_empty(a:Option Addr)(cap:Nat)(w:World):
 Calls Tryz.prog 94 #[.slice a 0 cap] w fun e w'=>e=.returned (.slice a 0 cap)∧w'=w:=Any.slices_Compact_string_empty Tryz.lays194 a cap w
end Go.Proofs
namespace Go.Proofs.YtfmolgdfjklmpaaGreat
open Go
set_option linter.unusedVariables false
theorem step_append_own_at{P:Program}{ops:Array Oper}{o:Oper}{a:Act}{w:World}{K:Act->World->Prop}{Q:Exit->Act->World->Prop}{E:Prop}(hgd:o.guard=none)(s x:Operand)(t:TypeId)
 (ho:o.op=.call {callee:=.builtin .append,args:=#[s,x],argTypes:=#[t,t]})
 (base:Nat) (e:TypeId) (i:TypeInfo) (z:Value) (size bytes:Nat) (ht:P.underlying t=some (.slice e)) (hi:P.info? e=some i) (hz:i.zero=some z)
 (hsize:i.size=size) (hby:i.bytes=bytes) (hzs:z.cells.size=size) (hsz:0<size)
 (v:Value) (n:Nat) (xs:List Value) (hs:a.eval s=v) (hown:w.ownsRow base e size v n xs)
 (ad:Addr) (m c:Nat) (news:List Value) (hx:a.eval x=.slice (some ad) m c) (hl:news.length=m*size) (hnews:∀ j u,news[j]? =some u->w.cell? (ad.add j)=some u) (h1:∀ u∈news,u.oneCell'=true)
 (h63:n+m<=maxLen) (hbytes:(n+m)*bytes<=140737488355328) (hbase:base<=w.heap.size)
 (h:∀ v' w',w'.ownsRow base e size v' (n+m) (xs++news)->w.grownBy w' v.ownBlock->(v'=.slice none 0 0↔v=.slice none 0 0∧m=0)->(v'.ownBlock=v.ownBlock∨v'.ownBlock=some w.heap.size)->K (a.put o.dst v') w'):
 if Region.wanted o (yielded ops a.tmps)=true then Oper.wp P o a w K Q else E:=by
 have hw:Region.wanted o (yielded ops a.tmps)=true:=by simp [Region.wanted,hgd]
 rw [if_pos hw];obtain⟨v',w',hr,h2,h3,h4,h5⟩:=run_append_own_at (P:=P) w base t o.type e i z size bytes ht hi hz hsize hby hzs hsz v n xs hown ad m c news hl hnews h1 h63 hbytes hbase;unfold Oper.wp execOp;simp only [ho,resolve,invoke,builtin,Sem.run_bind,Sem.run_pure,Result.andThen_ok,List.map_toArray,List.map_cons,List.map_nil,hs,hx,hr];exact h v' w' h2 h3 h4 h5
end Go.Proofs.YtfmolgdfjklmpaaGreat
namespace Go.Proofs.YtfmolgdfjklmpaaGreat
open Go.RowKit
def intCells(l:List Int):List Value:=l.map fun x=>.int .i64 x
end Go.Proofs.YtfmolgdfjklmpaaGreat
namespace Go.Proofs.YtfmolgdfjklmpaaGreat
open Go.RowKit
def ancS(s:ByteArray)(n:Int):ByteArray×Int:=
 match Nm.split s with
 |none=>(ByteArray.empty,32)
 |some ls=>if 0<=n∧n<=ls.length then(⟨(Nm.joinL (ls.drop n.toNat)).toArray⟩,0) else(ByteArray.empty,32)
end Go.Proofs.YtfmolgdfjklmpaaGreat
namespace Go.Proofs.YtfmolgdfjklmpaaGreat
open Go.RowKit
end Go.Proofs.YtfmolgdfjklmpaaGreat
namespace Go.Proofs.YtfmolgdfjklmpaaGreat
open Go.RowKit
end Go.Proofs.YtfmolgdfjklmpaaGreat
namespace Go.Proofs.YtfmolgdfjklmpaaGreat
open Go.RowKit
end Go.Proofs.YtfmolgdfjklmpaaGreat
namespace Go.Proofs.YtfmolgdfjklmpaaGreat
open Go.RowKit
end Go.Proofs.YtfmolgdfjklmpaaGreat
