import Derived.Test.YtaceiajcecaapaaGreatJZnM
import Derived.Test.YtaceiajcecaapaaGreatJCRow
import Derived.Test.YtaceiajcecaapaaGreatRows
import Derived.WalkSpells
import Derived.WalkLawsBesides
import Derived.Lib.Bytealg
import Derived.Laws.Externs
import Derived.Test.YtaceiajcecaapaaGreatJCmp
import Derived.Test.YtaceiajcecaapaaGreatJMath
import Derived.RegionTactic
import Derived.ChangeAlike
import Derived.BigRegion
import Derived.Test.YtaceiajcecaapaaGreatJRrM
import Derived.Test.YtaceiajcecaapaaGreatJTake1
import Derived.WalkKit
import Derived.RangeFuncNested
import Derived.RangeFuncBound
import Derived.RangeFuncCalls
import Derived.RangeFuncLeaves
import Derived.Shelf.Abstract
import Derived.Shelf.RegionOpen
import Derived.OwnWalkIn
import Derived.TacticsInMore
import Derived.LoopNIn
import Derived.LoopIn
namespace Go.Proofs.YtaceiajcecaapaaGreat
open Go.RowKit
set_option linter.unusedVariables false
def cfOf{α:Type}(f:α->Int)(l:List α)(i:Nat):Int:=match l[i]? with
 |some x=>f x
 |none=>0
def posOf{α:Type}(f:α->Int)(l:List α):Nat:=(l.takeWhile fun x=>decide (f x<0)).length
theorem cfOf_at{α:Type}{f:α->Int}{l:List α}{i:Nat}{x:α}(h:l[i]? =some x):cfOf f l i=f x:=by rw [cfOf,h]
theorem posOf_fnd{α:Type}{f:α->Int}:∀ (l:List α),(∀ a b,a<=b->b<l.length->cfOf f l b<0->cfOf f l a<0)->Fnd l.length (cfOf f l) (posOf f l):=by
 intro l
 induction l with
 |nil=>intro _;exact⟨Nat.le_refl _,fun i hi=>by simp [posOf] at hi,fun i _ h2=>by simp at h2⟩
 |cons x l ih=>
  intro hm;have hsh:∀ i,cfOf f (x::l) (i+1)=cfOf f l i:=fun i=>by simp [cfOf]
  have hz:cfOf f (x::l) 0=f x:=rfl
  by_cases hx:f x<0
  ·have hp:posOf f (x::l)=posOf f l+1:=by simp [posOf,hx]
   obtain⟨h1,h2,h3⟩:=ih (fun a b hab hb hc=>by
    have:=hm (a+1) (b+1) (by omega) (by simp;omega) (by rw [hsh];exact hc);rw [hsh] at this
    exact this)
   rw [hp];refine⟨by simp;omega,fun i hi=>?_,fun i h4 h5=>?_⟩
   ·cases i with
    |zero=>exact hx
    |succ i=>rw [hsh];exact h2 i (by omega)
   ·cases i with
    |zero=>omega
    |succ i=>rw [hsh];exact h3 i (by omega) (by simp at h5;omega)
  ·have hp:posOf f (x::l)=0:=by simp [posOf,hx]
   rw [hp];refine⟨Nat.zero_le _,fun i hi=>by omega,fun i _ h5=>?_⟩
   rcases Int.lt_or_le (cfOf f (x::l) i) 0 with h|h
   ·have:=hm 0 i (Nat.zero_le _) h5 h;rw [hz] at this;exact absurd this hx
   ·exact h
def insAt{α:Type}(k:Nat)(x:α)(l:List α):List α:=l.take k++[x]++l.drop k
def isIn{α:Type}(f:α->Int)(l:List α):Bool:=decide (posOf f l<l.length)&&decide (cfOf f l (posOf f l)=0)
def putF{α:Type}(f:α->Int)(x:α)(l:List α):List α:=if isIn f l then l else insAt (posOf f l) x l
theorem isIn_some{α:Type}{f:α->Int}{l:List α}(h:isIn f l=true):∃ x,l[posOf f l]? =some x∧f x=0:=by
 simp only [isIn,Bool.and_eq_true,decide_eq_true_eq] at h;obtain⟨h1,h2⟩:=h;refine⟨_,List.getElem?_eq_getElem h1,?_⟩;rw [cfOf_at (List.getElem?_eq_getElem h1)] at h2;exact h2
theorem isIn_not{α:Type}{f:α->Int}{l:List α}(h:isIn f l=false):¬(posOf f l<l.length∧cfOf f l (posOf f l)=0):=by
 rintro⟨h1,h2⟩
 rw [isIn,decide_eq_true h1,decide_eq_true h2] at h;cases h
theorem mono_of_pair{α:Type}{f:α->Int}{R:α->α->Prop}{l:List α}(hp:l.Pairwise R)(hR:∀ a b,R a b->f b<0->f a<0):∀ a b,a<=b->b<l.length->cfOf f l b<0->cfOf f l a<0:=by
 intro a b hab hb hc
 rcases Nat.lt_or_eq_of_le hab with h|h
 ·have:=List.pairwise_iff_getElem.1 hp a b (by omega) hb h;rw [cfOf_at (List.getElem?_eq_getElem hb)] at hc;rw [cfOf_at (List.getElem?_eq_getElem (by omega:a<l.length))];exact hR _ _ this hc
 ·subst h;exact hc
theorem blk_ne{w:World}{a b:Nat}{c d:Array Value}{T T':TypeId}(h1:Blk w a c T)(h2:Blk w b d T')(hne:T≠T'):a≠b:=by
 intro e;subst e;rw [Blk,h1] at h2;simp only [Option.some.injEq,Obj.cells.injEq] at h2;exact hne h2.2.1
theorem own_nb{W:World}{B e s n b:Nat}{v:Value}{xs:List Value}{cs:Array Value}{T:TypeId}(h:W.ownsRow B e s v n xs)(hb:Blk W b cs T)(hne:e≠T):v.ownBlock≠some b:=by
 intro he
 rcases h.2 with⟨rfl,_⟩|⟨g,cap,cur,rfl,_,hh,_⟩
 ·cases he
 ·simp only [Value.ownBlock,Option.some.injEq] at he;subst he;rw [Blk,hh] at hb;simp only [Option.some.injEq,Obj.cells.injEq] at hb;exact hne hb.2.1
end Go.Proofs.YtaceiajcecaapaaGreat
namespace Go.Proofs.YtaceiajcecaapaaGreat
open Go.RowKit
theorem ord_cmp:∀ (a b:List UInt8),Go.Lib.compareBytes a b=Nm.ordL a b:=by
 intro a
 induction a with
 |nil=>
  intro b
  cases b with
  |nil=>rfl
  |cons y b=>rfl
 |cons x a ih=>
  intro b
  cases b with
  |nil=>rfl
  |cons y b=>
   rw [Go.Lib.compareBytes]
   by_cases h:x=y
   ·subst h;rw [if_neg (by simp),if_neg (by simp),Nm.ordL_same,ih]
   ·rw [Nm.ordL_ne a b h];have hn:x.toNat≠y.toNat:=fun e=>h (UInt8.toNat_inj.1 e)
    by_cases hl:x<y
    ·have hl':(x.toNat:Int)<(y.toNat:Int):=by have:=UInt8.lt_iff_toNat_lt.1 hl;omega
     rw [if_pos hl,Nm.cmpI_lt hl']
    ·have hl':(y.toNat:Int)<(x.toNat:Int):=by
      have:¬x.toNat<y.toNat:=fun e=>hl (UInt8.lt_iff_toNat_lt.2 e)
      omega
     have hl2:y<x:=UInt8.lt_iff_toNat_lt.2 (by omega);rw [if_neg hl,if_pos hl2,Nm.cmpI_gt hl']
theorem cmpstring_run(a b:ByteArray)(w:World):(callFunc 196 #[.string a,.string b]).run Tryz.prog w=.ok (.value (.int .i64 (Nm.ordL a.data.toList b.data.toList))) w:=by
 have h:=run_callFunc_extern (P:=Tryz.prog) (f:=196) (fn:=Tryz.f196) (e:=Extern.BytealgCompare.compare) Tryz.func196 (by kernel_rfl) (by kernel_rfl) (by kernel_rfl) (by kernel_rfl) #[.string a,.string b] w;rw [h,Go.Lib.run_compareString,ord_cmp];rfl
set_option maxRecDepth 100000 in
set_option maxHeartbeats 400000 in
theorem compare_any'(a b:ByteArray)(w:World):
 Calls Tryz.prog 149 #[.string a,.string b] w fun e w'=>e=.returned (.int .i64 (Nm.ordL a.data.toList b.data.toList))∧w'=w:=by
 have hx:=cmpstring_run a b;generalize Nm.ordL a.data.toList b.data.toList=r at*;go_enter Tryz.func149,Tryz.ntmps149;go_wp2_with (go_at_call 176;go_in)
 go_ret;exact⟨rfl,rfl⟩
end Go.Proofs.YtaceiajcecaapaaGreat
namespace Go.Proofs.YtaceiajcecaapaaGreat
open Go.RowKit
theorem cell_drewN(w:World)(m:Nat)(a:Addr):(w.drewN m).cell? a=w.cell? a:=by simp
set_option maxRecDepth 100000 in
set_option maxHeartbeats 800000 in
theorem compare_any(v u:Value)(xs ys:List ByteArray)(w:World)(h:Nm.SRow w v xs)(h':Nm.SRow w u ys)(hxs:∀ x∈xs,x.size<=1000000000)(hlx:xs.length<=1000000000)(hly:ys.length<=1000000000):
 Calls Tryz.prog 104 #[v,u] w fun e w'=>e=.returned (.int .i64 (Nm.cmpLs xs ys))∧∃ m,w'=w.drewN m:=by
 obtain⟨a,cap,rfl,hcap,hmx,hnl,hc⟩:=h;obtain⟨a',cap',rfl,hcap',hmx',hnl',hc'⟩:=h';clear hnl hnl';go_enter Tryz.func104,Tryz.ntmps104;go_wp2
 go_loopw [5] (fun i wr=>∃ k:Nat,k<=xs.length∧k<=ys.length∧i=.int .i64 ((k:Int)+1)∧Hid (Nm.cmpLs xs ys=Nm.cmpRev (xs.reverse.drop k) (ys.reverse.drop k))∧∃ m,Hid (wr=w.drewN m))
  (fun i _=>xs.length+1-(intOf i).toNat)
 case atStart=>exact⟨0,Nat.zero_le _,Nat.zero_le _,rfl,by show _=_;simp [Nm.cmpLs],0,rfl⟩
 case round=>
  obtain⟨k,hka,hkb,rfl,HT,m,HW⟩:=hrel
  by_cases h1:k<xs.length∧k<ys.length
  ·obtain⟨h1,h2⟩:=h1;have i1:(k:Int)+1<=(xs.length:Int):=by omega
   have i2:(k:Int)+1<=(ys.length:Int):=by omega
   obtain⟨x,hx⟩:∃ x,xs[xs.length-(k+1)]? =some x:=⟨_,List.getElem?_eq_getElem (by omega)⟩;obtain⟨y,hy⟩:∃ y,ys[ys.length-(k+1)]? =some y:=⟨_,List.getElem?_eq_getElem (by omega)⟩;obtain⟨b,off,rfl,hcell⟩:=hc (by intro h;rw [h] at h1;simp at h1);obtain⟨b',off',rfl,hcell'⟩:=hc' (by intro h;rw [h] at h2;simp at h2);have hcx:wr.cell? ⟨b,off+(xs.length-(k+1)),none⟩=some (.string x):=by rw [HW.out,cell_drewN];exact hcell _ _ hx
   have hcy:wr.cell? ⟨b',off'+(ys.length-(k+1)),none⟩=some (.string y):=by rw [HW.out,cell_drewN];exact hcell' _ _ hy
   have hxz:=hxs x (List.mem_of_getElem? hx);have q1:(0:Int)<=(xs.length:Int)-((k:Int)+1):=by omega
   have q2:(xs.length:Int)-((k:Int)+1)<(xs.length:Int):=by omega
   have q3:((xs.length:Int)-((k:Int)+1)).toNat=xs.length-(k+1):=by omega
   have q4:(0:Int)<=(ys.length:Int)-((k:Int)+1):=by omega
   have q5:(ys.length:Int)-((k:Int)+1)<(ys.length:Int):=by omega
   have q6:((ys.length:Int)-((k:Int)+1)).toNat=ys.length-(k+1):=by omega
   have hrx:=Nm.rev_get h1 hx;have hry:=Nm.rev_get h2 hy
   by_cases he:Nm.ordS x y=0
   ·have HN:Hid (Nm.cmpLs xs ys=Nm.cmpRev (xs.reverse.drop (k+1)) (ys.reverse.drop (k+1))):=HT.out.trans (Nm.cmp_go hrx hry he);have hcf:=fun W=>compareFolded_any x y W hxz
    rw [he] at hcf;have hz:((0:Int) != 0)=false:=rfl;clear he hx hy hrx hry hcell hcell' hc hc' hxs;go_wp2;go_quiet ((go_at_call 140;exact Calls.quiet_of (hcf _)))
    go_wp2;go_roundw
    case rel=>exact⟨k+1,by omega,by omega,by go_num,HN,_,by show _=_;rw [HW.out,World.drewN_drewN]⟩
    case measure=>simp [intOf];omega
   ·have HO:Hid (Nm.cmpLs xs ys=Nm.ordS x y):=HT.out.trans (Nm.cmp_stop hrx hry he);have hcf:=fun W=>compareFolded_any x y W hxz
    have hz:(Nm.ordS x y != 0)=true:=by rw [bne_iff_ne];exact he
    generalize Nm.ordS x y=o at*;clear he hx hy hrx hry hcell hcell' hc hc' hxs;go_wp2;go_quiet ((go_at_call 140;exact Calls.quiet_of (hcf _)))
    go_wp2;go_ret;rw [HO.out];exact⟨rfl,_,by rw [HW.out,World.drewN_drewN]⟩
  ·have HO:Hid (Nm.cmpLs xs ys=Nm.cmpI xs.length ys.length):=by
    show _=_
    rw [HT.out,Nm.cmp_end (by simpa using hka) (by simpa using hkb) (by simp;omega)];simp
   clear hc hc' hxs
   by_cases h2:k<xs.length
   ·have g1:(k:Int)+1<=(xs.length:Int):=by omega
    have g2:(ys.length:Int)<(k:Int)+1:=by omega
    clear h1;go_wp2_with fail
    refine(cmpInt_any _ _ _).mono ?_;rintro e w3 ⟨rfl,rfl⟩;go_wp2;go_ret;rw [HO.out];exact⟨rfl,_,HW.out⟩
   ·have g1:(xs.length:Int)<(k:Int)+1:=by omega
    clear h1;go_wp2_with fail
    refine(cmpInt_any _ _ _).mono ?_;rintro e w3 ⟨rfl,rfl⟩;go_wp2;go_ret;rw [HO.out];exact⟨rfl,_,HW.out⟩
end Go.Proofs.YtaceiajcecaapaaGreat
namespace Go.Proofs.YtaceiajcecaapaaGreat
open Go.RowKit
theorem conv_one(n:Int)(W:World):
 (convert 179 9 (.slice (some ⟨W.heap.size,0,none⟩) 1 1)).run Tryz.prog (W.alloc (.cells #[.int .u8 n] 5))=.ok (.string ⟨#[UInt8.ofNat n.toNat]⟩) (W.alloc (.cells #[.int .u8 n] 5)):=by
 rw [run_convert_bytes_string _ 179 9 5 _ _ _ Tryz.underlying179 Tryz.underlying5 Tryz.underlying9];have hl:=run_loadCells_list (P:=Tryz.prog) (W.alloc (.cells #[.int .u8 n] 5)) ⟨W.heap.size,0,none⟩ ([n].map (Value.int .u8)) (fun j v hj=>cell_one_new W (.int .u8 n) 5 j v hj);rw [run_bytesToString _ _ 1 1 [n] hl];rfl
theorem conv_one_drew(n:Int)(W:World):
 (convert 179 9 (.slice (some ⟨W.heap.size,0,none⟩) 1 1)).run Tryz.prog (W.alloc (.cells #[.int .u8 n] 5)).drew=.ok (.string ⟨#[UInt8.ofNat n.toNat]⟩) (W.alloc (.cells #[.int .u8 n] 5)).drew:=
 conv_one n W.drew
theorem ret_str{a b:ByteArray}(h:a=b):Ending.returned (.string a)=.returned (.string b):=by rw [h]
theorem byte_mod(n:Nat):UInt8.ofNat (n % 256)=UInt8.ofNat n:=by
 apply UInt8.toNat_inj.1;simp
theorem ba_ext{a b:ByteArray}(h:a.data.toList=b.data.toList):a=b:=by
 apply ByteArray.ext;exact Array.toList_inj.1 h
theorem size_list(s:ByteArray):s.data.toList.length=s.size:=by simp
end Go.Proofs.YtaceiajcecaapaaGreat
namespace Go.Proofs.YtaceiajcecaapaaGreat
open Go.RowKit
set_option linter.unusedVariables false
structure It where
 r:Rr
 fo:ByteArray
 dt:ByteArray
 out:Bool
def itC(x:It):List Value:=[.string x.r.own,.int .i64 x.r.ty,.int .i64 x.r.cl,.int .i64 x.r.tt,.string x.r.da,.string x.fo,.string x.dt,.bool x.out]
def itCs(l:List It):List Value:=l.flatMap itC
theorem itCs_snoc(l:List It)(x:It):itCs (l++[x])=itCs l++itC x:=by simp [itCs]
theorem itCs_len(l:List It):(itCs l).length=l.length*8:=by
 induction l with
 |nil=>rfl
 |cons x l ih=>
  have e:itCs (x::l)=itC x++itCs l:=by simp [itCs]
  rw [e,List.length_append,ih];simp [itC]
  omega
theorem itCs_at:∀ (xs:List It) (k j:Nat) (x:It),xs[k]? =some x->j<8->(itCs xs)[k*8+j]? =(itC x)[j]? :=by
 intro xs
 induction xs with
 |nil=>intro k j x h;simp at h
 |cons y xs ih=>
  intro k j x h hj;have e:itCs (y::xs)=itC y++itCs xs:=by simp [itCs]
  have hl:(itC y).length=8:=rfl
  cases k with
  |zero=>
   simp at h;subst h
   rw [e,Nat.zero_mul,Nat.zero_add,List.getElem?_append_left (by omega)]
  |succ k=>
   simp at h;rw [e,List.getElem?_append_right (by omega),hl,show(k+1)*8+j-8=k*8+j by omega];exact ih k j x h hj
def hasI(l:List It)(fo:ByteArray)(t:Int):Bool:=l.any fun x=> !x.out&&decide (x.fo=fo)&&decide (x.r.ty=t)
def firstI(p:Nat->It->Bool)(l:List It):Option Nat:=(List.range l.length).find? fun i=>match l[i]? with
 |some x=>p i x
 |none=>false
theorem firstI_at{p:Nat->It->Bool}{l:List It}{k:Nat}{x:It}(hno:∀ i,i<k->∀ y,l[i]? =some y->p i y=false)(hk:l[k]? =some x)(hp:p k x=true):firstI p l=some k:=by
 have hlt:=(List.getElem?_eq_some_iff.1 hk).1;rw [firstI,List.find?_eq_some_iff_getElem];refine⟨by rw [hk];exact hp,k,by simpa using hlt,by simp,fun j hj=>?_⟩;have hjl:j<l.length:=by omega
 simp only [List.getElem_range];rw [List.getElem?_eq_getElem hjl];simp [hno j hj _ (List.getElem?_eq_getElem hjl)]
theorem firstI_no{p:Nat->It->Bool}{l:List It}(hno:∀ i,i<l.length->∀ y,l[i]? =some y->p i y=false):firstI p l=none:=by
 rw [firstI,List.find?_eq_none];intro i hi;simp at hi;rw [List.getElem?_eq_getElem hi];simp [hno i hi _ (List.getElem?_eq_getElem hi)]
def starB(s:ByteArray):Bool:=decide (1<s.size)&&decide (s.extract 0 2=⟨#[1,42]⟩)
def rulesI(l:List It)(fo:ByteArray):Int×Int:=
 match firstI (fun i x=> !x.out&&decide (x.r.ty=6)&&(decide (x.fo≠fo)||hasI (l.take i) fo 6)) l with
 |some i=>(20,i)
 |none=>if !hasI l fo 6 then(20,-1) else if !hasI l fo 2 then(21,-1) else
  match firstI (fun _ x=> !x.out&&starB x.fo&&(decide (x.r.ty=2)||decide (x.r.ty=39))) l with
  |some i=>(26,i)
  |none=>match firstI (fun i x=> !x.out&&(decide (x.r.ty=5)||decide (x.r.ty=39))&&hasI (l.take i) x.fo x.r.ty) l with
   |some i=>(23,i)
   |none=>match firstI (fun _ x=> !x.out&&decide (x.r.ty≠5)&&decide (x.r.ty≠47)&&hasI l x.fo 5) l with
    |some i=>(23,i)
    |none=>match firstI (fun _ x=> !x.out&&l.any fun y=> !y.out&&decide (y.r.ty=39)&&decide (y.fo≠x.fo)&&isUnderS x.fo y.fo) l with
     |some i=>(25,i)
     |none=>(0,0)
end Go.Proofs.YtaceiajcecaapaaGreat
namespace Go.Proofs.YtaceiajcecaapaaGreat
open Go.RowKit
theorem nok_true{s:ByteArray}(h:(Nm.split s).isSome=true):Dt.sz .nm s=some s.size:=by
 obtain⟨h1,h2⟩:=(Dt.name_iff s).1 h;rw [Dt.sz,if_neg h1,h2]
theorem nok_false{s:ByteArray}(h:(Nm.split s).isSome=false):Dt.sz .nm s=none∨∃ n,Dt.sz .nm s=some n∧n≠s.size:=by
 by_cases h0:(Dt.nameAtS s).size=0
 ·left;rw [Dt.sz,if_pos h0]
 ·right;refine⟨_,by rw [Dt.sz,if_neg h0],?_⟩;intro e;rw [(Dt.name_iff s).2 ⟨h0,e⟩] at h;simp at h
set_option maxRecDepth 100000 in
set_option maxHeartbeats 400000 in
theorem implNameOK_same(s:ByteArray)(w:World):
 Calls Tryz.prog 124 #[.string s] w fun e w'=>e=.returned (.bool (Nm.split s).isSome)∧w'=w:=by
 have hcall:=nameSize_any s
 cases hq:(Nm.split s).isSome with
 |true=>
  rw [nok_true hq] at hcall;simp only [szV,Option.getD_some,Option.isSome_some] at hcall;clear hq;go_enter Tryz.func124,Tryz.ntmps124;go_wp2_with (go_at_call 155;refine(hcall _).mono ?_;rintro e w1 ⟨rfl,rfl⟩)
  go_ret
  exact⟨rfl,rfl⟩
 |false=>
  rcases nok_false hq with h|⟨n,h,hn⟩
  ·rw [h] at hcall;simp only [szV,Option.getD_none,Option.isSome_none] at hcall;clear hq h;go_enter Tryz.func124,Tryz.ntmps124;go_wp2_with (go_at_call 155;refine(hcall _).mono ?_;rintro e w1 ⟨rfl,rfl⟩)
   go_ret;exact⟨rfl,rfl⟩
  ·rw [h] at hcall;simp only [szV,Option.getD_some,Option.isSome_some] at hcall;have hb:((n:Int)==(s.size:Int))=false:=by rw [beq_eq_false_iff_ne];omega
   have hb2:(n==s.size)=false:=by rw [beq_eq_false_iff_ne];omega
   clear hq h;go_enter Tryz.func124,Tryz.ntmps124;go_wp2_with (go_at_call 155;refine(hcall _).mono ?_;rintro e w1 ⟨rfl,rfl⟩)
   go_ret;exact⟨rfl,rfl⟩
theorem implNameOK_any(s:ByteArray)(w:World)(_:s.size<=maxLen):
 Calls Tryz.prog 124 #[.string s] w fun e w'=>e=.returned (.bool (Nm.split s).isSome)∧Below w.heap.size w w':=by
 refine(implNameOK_same s w).mono ?_;rintro e w' ⟨rfl,rfl⟩;exact⟨rfl,Below.refl _ _⟩
end Go.Proofs.YtaceiajcecaapaaGreat
namespace Go.Proofs.YtaceiajcecaapaaGreat
open Go.RowKit
set_option maxRecDepth 100000 in
set_option maxHeartbeats 800000 in
theorem splitName_any(s:ByteArray)(w:World)(_:s.size<=maxLen):
 Calls Tryz.prog 81 #[.string s] w fun e w'=>∃ v,e=.returned (.tuple #[v,.bool (Nm.split s).isSome])∧
  w'.ownsRow w.heap.size 9 1 v ((Nm.split s).getD []).length (((Nm.split s).getD []).map Value.string)∧Below w.heap.size w w':=by
 obtain⟨i0,hi,hz0,hz1,hz2⟩:=info_parts Tryz.infoStr;have hcall:=implNameOK_same s
 cases hq:Nm.split s with
 |none=>
  rw [hq] at hcall;simp only [Option.isSome_none] at hcall;clear hq;go_enter Tryz.func81,Tryz.ntmps81;go_wp2_with (go_at_call 124;refine(hcall _).mono ?_;rintro e w1 ⟨rfl,hw⟩;obtain rfl:w=w1:=hw.symm;clear hw)
  go_ret2
  exact⟨_,rfl,World.ownsRow_nil _ _ _ _,Below.refl _ _⟩
 |some L=>
  have hz:=Nm.split_size hq;have hst:=Nm.at_start s hz.2;have HQ:=Nm.hide hq;rw [hq] at hcall;simp only [Option.isSome_some] at hcall;clear hq;have hz2':=hz.2;clear hz;go_enter Tryz.func81,Tryz.ntmps81;go_wp2_with (go_at_call 124;refine(hcall _).mono ?_;rintro e w1 ⟨rfl,hw⟩;obtain rfl:w=w1:=hw.symm;clear hw)
  go_loopw [4,5] (fun v x wr=>∃ (ls:List ByteArray) (r:ByteArray),x=.string r∧Nm.At s ls r∧ls.length+r.size<=255∧wr.ownsRow w.heap.size 9 1 v ls.length (ls.map Value.string)∧Below w.heap.size w wr)
   (fun _ x _=>match x with|.string r=>r.size|_=>0)
  case atStart=>exact⟨[],s,rfl,hst,by simp;omega,World.ownsRow_nil _ _ _ _,Below.refl _ _⟩
  case round=>
   obtain⟨ls,r,rfl,hat,hb,hown,hbel⟩:=hrel;clear hst;have hq:=HQ.out
   by_cases h0:r.size=0
   ·rw [Nm.at_empty hat h0] at hq;simp at hq
   ·have hp:0<r.size:=by omega
    have hn:(r[0].toNat:Int)<256:=by have:=r[0].toNat_lt;omega
    by_cases h1:r.size=1∧r[0].toNat=0
    ·have hL:L=ls:=by
      have:=Nm.at_end hat hp h1.2 h1.1;rw [hq] at this;simpa using this
     have e1:=Nm.tl_one hp h1.1 h1.2;have e1':(r.toList != [0])=false:=by rw [bne,e1];rfl
     clear h1 hq HQ;go_wp2;go_ret2;rw [hL];exact⟨_,rfl,hown,hbel⟩
    ·have e1:=Nm.tl_not_one hp h1;have e1':(r.toList != [0])=true:=by rw [bne,e1];rfl
     by_cases h2:r[0].toNat=0
     ·rw [Nm.at_zero hat hp h2 (fun h=>h1 ⟨h,h2⟩)] at hq;simp at hq
     ·by_cases h3:63<r[0].toNat∨r.size<r[0].toNat+1
      ·rw [Nm.at_bad hat hp h2 h3] at hq;simp at hq
      ·have e4:(r[0].toNat:Int)<=63:=by omega
       have e5:(r[0].toNat:Int)+1<=(r.size:Int):=by omega
       have e5':1+r[0].toNat<=r.size:=by omega
       have hi0:(0:Int)<(r.size:Int):=by omega
       have HN:Hid (Nm.At s (ls++[r.extract 1 (r[0].toNat+1)]) (r.extract (r[0].toNat+1) r.size)):=Nm.at_step hat hp h2 (by omega) (by omega);have hsz:=hbel.size;clear h2 h1 h0 h3 hq HQ;go_wp2_with (at_builtin;refine wpList_append_own _ rfl (.tmp 16) (.tmp 21) 68 rfl w.heap.size 9 i0 (.string ByteArray.empty) 1 16 Tryz.underlying68 hi hz0 hz1 hz2 rfl (by decide) _ _ _ rfl (hown.alloc _) ⟨wr.heap.size,0,none⟩ 1 1 [.string (r.extract 1 (1+r[0].toNat))] rfl rfl (cell_new1 _ _ _) (Nm.one_cell _ rfl) (by unfold maxLen;omega) (by omega) (by simp;omega) ?_)
       intro v' w1 hown' hgrow _;have R:=own_step hsz hown hbel _ hown' hgrow;clear hown' hgrow hown hbel;go_wp2;go_roundw
       case rel=>exact⟨_,_,rfl,by simpa [Nat.add_comm] using HN.out,by simp;omega,R.1,R.2⟩
       case measure=>simp;omega
end Go.Proofs.YtaceiajcecaapaaGreat
namespace Go.Proofs.YtaceiajcecaapaaGreat
open Go.RowKit Go.Shelf
set_option linter.unusedVariables false
attribute [local go_sem] Oper.semAt_some
set_option maxRecDepth 100000 in
set_option maxHeartbeats 2000000 in
theorem all1L_in{α:Type}(ka:α->Option Addr)(kn kc:α->Nat)(vf:α->Addr)(F:Fence)(n:Nat)(h7:F.fn 119)(hro:F.round=none)(hn:1<=n)(l tb g n₀ b off cap:Nat)(cmpv:Value)(zs:List α)(hl:zs.length<=1000000)(hcap:zs.length<=cap∧cap<=maxLen)(hb:b<n₀)(J Jx:List α->World->Prop)
 (hJ:∀ s W W',J s W->W.grownBy W' none->J s W')
 (hY:∀ pre x W,J pre W->pre.length<zs.length->YieldAt F (n-1) Tryz.prog l #[(Value.slice (ka x) (kn x) (kc x)),(Value.pointer (some (vf x)))] W fun e W'=>
  (e=.returned (.bool true)∧J (pre++[x]) W'∧Below n₀ W W')∨(e=.returned (.bool false)∧Jx (pre++[x]) W'))
 (W:World) (kb:W.cell? ⟨tb,0,none⟩=some (.pointer (some ⟨g,0,none⟩))) (kg:W.cell? ⟨g,1,none⟩=some (.slice (some ⟨b,off,none⟩) zs.length cap))
 (hc:∀ (i:Nat) (x:α),zs[i]? =some x->W.cell? ⟨b,off+i*2,none⟩=some (Value.slice (ka x) (kn x) (kc x))∧W.cell? ⟨b,off+i*2+1,none⟩=some (Value.pointer (some (vf x)))) (hn₀:n₀<=W.heap.size) (h0:J [] W):
 CallsIn F n Tryz.prog 119 #[.func (.yield l) #[] #[],.pointer (some ⟨tb,0,none⟩)] W fun e W'=>(∃ v,e=.returned v)∧
  ((∃ ys,ys=zs∧J ys W')∨(∃ pre,pre<+:zs∧Jx pre W')):=by
 obtain⟨hcap1,hcap2⟩:=hcap;unfold maxLen at hcap2;refine callsIn_of_wp Tryz.func119 rfl h7 ?_ hro;simp only [Tryz.ntmps119,List.size_toArray,List.length_cons,List.length_nil,Nat.reduceAdd,Nat.reduceSub,Array.replicate_succ,Array.replicate_zero,List.push_toArray,List.append_toArray,List.nil_append,List.cons_append]
 gi_wp2
 gi_loopw [10] (fun i wr=>∃ k:Nat,k<=zs.length∧i=.int .i64 k∧J (zs.take k) wr∧Below n₀ W wr)
  (fun i _=>zs.length-(intOf i).toNat)
 case atStart=>exact⟨0,Nat.zero_le _,rfl,by simpa using h0,Below.refl _ _⟩
 case round=>
  obtain⟨k,hk,rfl,hJs,hnx⟩:=hrel
  by_cases hlt:k<zs.length
  ·obtain⟨x,hx⟩:∃ x,zs[k]? =some x:=⟨_,List.getElem?_eq_getElem hlt⟩;obtain⟨c0,c1⟩:=hc k x hx;have d0:wr.cell? ⟨b,off+k*2,none⟩=some (Value.slice (ka x) (kn x) (kc x)):=(hnx.cell (p:=⟨b,off+k*2,none⟩) hb).trans c0;have d1:wr.cell? ⟨b,off+k*2+1,none⟩=some (Value.pointer (some (vf x))):=(hnx.cell (p:=⟨b,off+k*2+1,none⟩) hb).trans c1;have hal:∀ o:Obj,wr.grownBy (wr.alloc o) none:=fun o=>⟨rfl,rfl,rfl,by simp,fun q hq _=>heap_alloc_old wr _ hq⟩
   obtain⟨fn,tmps,assign,body,hy,hR⟩:=hY _ x (wr.alloc (.cells #[(Value.slice (ka x) (kn x) (kc x)),(Value.pointer (some (vf x)))] 165)) (hJ _ _ _ hJs (hal _)) (by rw [List.length_take];omega);have n1:(0:Int)<=(k:Int):=by omega
   have n2:(k:Int)<(zs.length:Int):=by omega
   have hbw:Below n₀ W (wr.alloc (.cells #[(Value.slice (ka x) (kn x) (kc x)),(Value.pointer (some (vf x)))] 165)):=hnx.alloc (Nat.le_trans hn₀ hnx.size) _
   have HT:Hid (zs.take (k+1)=zs.take k++[x]):=by
    obtain⟨hk',e⟩:=List.getElem?_eq_some_iff.1 hx;show _=_
    rw [List.take_succ_eq_append_getElem hk',e]
   clear hc c0 c1 hx
   gi_wp2
   refine hR.mono ?_;rintro e W3 (⟨rfl,hJ3,hk3⟩|⟨rfl,hJx3⟩)
   ·gi_wp2
    go_roundw
    case rel=>exact⟨k+1,by omega,by go_num,by rw [HT.out];exact hJ3,hbw.trans hk3⟩
    case measure=>simp [intOf];omega
   ·gi_wp2
    refine bodyPost_ret (results_none rfl _ _ _) rfl ?_;exact⟨⟨_,rfl⟩,.inr ⟨_,by rw [<- HT.out];exact List.take_prefix _ _,hJx3⟩⟩
  ·obtain rfl:k=zs.length:=by omega
   have n2:(zs.length:Int)<=(zs.length:Int):=by omega
   rw [List.take_length] at hJs;clear hc
   gi_wp2
   go_end0
   exact⟨⟨_,rfl⟩,.inl ⟨_,rfl,hJs⟩⟩
end Go.Proofs.YtaceiajcecaapaaGreat
