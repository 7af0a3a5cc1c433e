import Derived.Test.YtaceiajcecaapaaGreatJRrM
import Derived.Test.YtaceiajcecaapaaGreatJMath
namespace Go.Proofs.YtaceiajcecaapaaGreat
open Go.RowKit
def cutCode(t:Int)(d:ByteArray):Int:=
 if t<0∨65535<t then 6 else if 65535<d.size then 7 else if(Dt.spans (Dt.implP t) 0 d).isSome then 0 else 7
def cutS(t:Int)(d:ByteArray):Option (List (Nat×Nat)):=if t<0∨65535<t then none else if 65535<d.size then none else Dt.spans (Dt.implP t) 0 d
def spanCells(sp:List (Nat×Nat)):List Value:=sp.flatMap fun s=>[.int .i64 (s.1:Int),.int .i64 (s.2:Int)]
theorem spanCells_append(a b:List (Nat×Nat)):spanCells (a++b)=spanCells a++spanCells b:=by simp [spanCells]
def CAt(fs:List Dt.Pc)(d:ByteArray)(sp:List (Nat×Nat))(r:List Dt.Pc)(a:Nat):Prop:=
 Dt.spans fs 0 d=(Dt.spans r a (d.extract a d.size)).map (fun t=>sp++t)
theorem cat_start(fs:List Dt.Pc)(d:ByteArray):CAt fs d [] fs 0:=by simp [CAt]
theorem cat_end{fs:List Dt.Pc}{d:ByteArray}{sp:List (Nat×Nat)}{a:Nat}(h:CAt fs d sp [] a)(h0:d.size<=a):Dt.spans fs 0 d=some sp:=by
 rw [h,Dt.spans,if_pos (by simp;omega)];simp
theorem cat_left{fs:List Dt.Pc}{d:ByteArray}{sp:List (Nat×Nat)}{a:Nat}(h:CAt fs d sp [] a)(h0:a<d.size):Dt.spans fs 0 d=none:=by
 rw [h,Dt.spans,if_neg (by simp;omega)];rfl
theorem cat_none{fs r:List Dt.Pc}{p:Dt.Pc}{d:ByteArray}{sp:List (Nat×Nat)}{a:Nat}(h:CAt fs d sp (p::r) a)(h0:Dt.sz p (d.extract a d.size)=none):Dt.spans fs 0 d=none:=by
 rw [h,Dt.spans,h0];rfl
theorem cat_step{fs r:List Dt.Pc}{p:Dt.Pc}{d:ByteArray}{sp:List (Nat×Nat)}{a n:Nat}(h:CAt fs d sp (p::r) a)(ha:a<=d.size)(h0:Dt.sz p (d.extract a d.size)=some n):
 CAt fs d (sp++if p.isN then [(a,a+n)] else []) r (a+n)∧a+n<=d.size:=by
 have hn:=Dt.sz_le h0;have hz:(d.extract a d.size).size=d.size-a:=by simp
 refine⟨?_,by omega⟩;rw [CAt,h,Dt.spans,h0,Option.map_map,Dt.ext_ext (by omega) (Nat.le_refl _)];congr 1;funext t
 cases p.isN<;>simp
theorem code_type{t:Int}{d:ByteArray}(h:t<0∨65535<t):cutCode t d=6∧cutS t d=none:=by
 rw [cutCode,cutS,if_pos h,if_pos h];exact⟨rfl,rfl⟩
theorem code_long{t:Int}{d:ByteArray}(h:¬(t<0∨65535<t))(h1:65535<d.size):cutCode t d=7∧cutS t d=none:=by
 rw [cutCode,cutS,if_neg h,if_neg h,if_pos h1,if_pos h1];exact⟨rfl,rfl⟩
theorem code_none{t:Int}{d:ByteArray}(h:¬(t<0∨65535<t))(h1:¬65535<d.size)(h2:Dt.spans (Dt.implP t) 0 d=none):cutCode t d=7∧cutS t d=none:=by
 rw [cutCode,cutS,if_neg h,if_neg h,if_neg h1,if_neg h1,h2];exact⟨rfl,rfl⟩
theorem code_some{t:Int}{d:ByteArray}{sp:List (Nat×Nat)}(h:¬(t<0∨65535<t))(h1:¬65535<d.size)(h2:Dt.spans (Dt.implP t) 0 d=some sp):cutCode t d=0∧cutS t d=some sp:=by
 rw [cutCode,cutS,if_neg h,if_neg h,if_neg h1,if_neg h1,h2];exact⟨rfl,rfl⟩
theorem implP_len(t:Int):(Dt.implP t).length<=5:=by
 unfold Dt.implP
 repeat' split
 all_goals simp
end Go.Proofs.YtaceiajcecaapaaGreat
namespace Go.Proofs.YtaceiajcecaapaaGreat
open Go.RowKit
set_option maxRecDepth 100000 in
set_option maxHeartbeats 800000 in
theorem l01Split_any(s:ByteArray)(w:World)(hs:s.size<=maxLen):
 Calls Tryz.prog 92 #[.string s] w fun e w'=>∃ v,e=.returned (.tuple #[v,.bool (Nm.split s).isSome])∧
  w'.ownsRow w.heap.size 9 1 v ((Nm.split s).getD []).length (((Nm.split s).getD []).map Value.string)∧Below w.heap.size w w':=by
 unfold maxLen at hs;obtain⟨i0,hi,hz0,hz1,hz2⟩:=info_parts Tryz.infoStr
 by_cases hlong:255<s.size
 ·have H:Hid (Nm.split s=none):=Nm.split_long s hlong;have hl:(255:Int)<(s.size:Int):=by omega
  go_enter Tryz.func92,Tryz.ntmps92;go_wp2;go_ret2;rw [H.out];exact⟨_,rfl,World.ownsRow_nil _ _ _ _,(Below.refl _ _).alloc (Nat.le_refl _) _⟩
 by_cases hshort:s.size=0
 ·have H:Hid (Nm.split s=none):=Nm.at_empty (Nm.at_start s (by omega)) hshort;have hl:(s.size:Int)<1:=by omega
  go_enter Tryz.func92,Tryz.ntmps92;go_wp2;go_ret2;rw [H.out];exact⟨_,rfl,World.ownsRow_nil _ _ _ _,(Below.refl _ _).alloc (Nat.le_refl _) _⟩
 ·have hl:(s.size:Int)<=255:=by omega
  have hl1:(1:Int)<=(s.size:Int):=by omega
  have hst:=Nm.at_start s (by omega);go_enter Tryz.func92,Tryz.ntmps92;go_wp2
  go_loopw [4,5] (fun v x wr=>∃ (ls:List ByteArray) (r:ByteArray),x=.string r∧Nm.At s ls r∧ls.length+r.size<=255∧wr.ownsRow w.heap.size 9 1 v ls.length (ls.map Value.string)∧Below w.heap.size w wr)
   (fun _ x _=>match x with|.string r=>r.size|_=>0)
  case atStart=>exact⟨[],s,rfl,hst,by simp;omega,World.ownsRow_made w #[] 0 (Nat.le_refl _) (by decide) rfl,(Below.refl _ _).alloc (Nat.le_refl _) _⟩
  case round=>
   obtain⟨ls,r,rfl,hat,hb,hown,hbel⟩:=hrel;clear hst
   by_cases h0:r.size=0
   ·have HN:Hid (Nm.split s=none):=Nm.at_empty hat h0;have e2:=Nm.tl_empty h0;go_wp2;go_ret2;rw [HN.out];exact⟨_,rfl,World.ownsRow_nil _ _ _ _,hbel⟩
   ·have hp:0<r.size:=by omega
    have hn:(r[0].toNat:Int)<256:=by have:=r[0].toNat_lt;omega
    have e2:=Nm.tl_not_empty hp
    by_cases h2:r[0].toNat=0
    ·have e3:((r[0].toNat:Int)==0)=true:=by simp [h2]
     by_cases h1:r.size=1
     ·have HN:Hid (Nm.split s=some ls):=Nm.at_end hat hp h2 h1;have e4:((r.size:Int) != 1)=false:=by simp [h1]
      clear h1 h2;go_wp2;go_ret2;rw [HN.out];exact⟨_,rfl,hown,hbel⟩
     ·have HN:Hid (Nm.split s=none):=Nm.at_zero hat hp h2 h1;have e4:((r.size:Int) != 1)=true:=by rw [bne_iff_ne];omega
      clear h1 h2;go_wp2;go_ret2;rw [HN.out];exact⟨_,rfl,World.ownsRow_nil _ _ _ _,hbel⟩
    ·have e3:((r[0].toNat:Int)==0)=false:=by rw [beq_eq_false_iff_ne];omega
     have e3':(0:Int)<(r[0].toNat:Int):=by omega
     by_cases h3:63<r[0].toNat
     ·have HN:Hid (Nm.split s=none):=Nm.at_bad hat hp h2 (.inl h3);have e4:(63:Int)<(r[0].toNat:Int):=by omega
      clear h2 h0 h3;go_wp2;go_ret2;rw [HN.out];exact⟨_,rfl,World.ownsRow_nil _ _ _ _,hbel⟩
     ·have e4:(r[0].toNat:Int)<=63:=by omega
      by_cases h4:r.size<r[0].toNat+1
      ·have HN:Hid (Nm.split s=none):=Nm.at_bad hat hp h2 (.inr h4);have e5:(r.size:Int)<(r[0].toNat:Int)+1:=by omega
       clear h2 h0 h3 h4;go_wp2;go_ret2;rw [HN.out];exact⟨_,rfl,World.ownsRow_nil _ _ _ _,hbel⟩
      ·have e5:(r[0].toNat:Int)+1<=(r.size:Int):=by omega
       have HN:Hid (Nm.At s (ls++[r.extract 1 (r[0].toNat+1)]) (r.extract (r[0].toNat+1) r.size)):=Nm.at_step hat hp h2 (by omega) (by omega);have hsz:=hbel.size;clear h2 h0 h3 h4;go_wp2_with (at_builtin;refine wpList_append_own _ rfl (.tmp 37) (.tmp 42) 56 rfl w.heap.size 9 i0 (.string ByteArray.empty) 1 16 Tryz.underlying56 hi hz0 hz1 hz2 rfl (by decide) _ _ _ rfl (hown.alloc _) ⟨wr.heap.size,0,none⟩ 1 1 [.string (r.extract 1 (r[0].toNat+1))] rfl rfl ?c1 ?c2 ?c3 ?c4 ?c5 ?_)
       case c1=>
        intro j u hj
        match j,hj with
        |0,hj=>simp at hj;subst hj;simp [Addr.add]
       case c2=>exact Nm.one_cell _ rfl
       case c3=>unfold maxLen;omega
       case c4=>omega
       case c5=>simp;omega
       ·intro v' w1 hown' hgrow _;have R:=own_step hsz hown hbel _ hown' hgrow;clear hown' hgrow hown hbel;go_wp2;go_roundw
        case rel=>exact⟨_,_,rfl,HN.out,by simp;omega,R.1,R.2⟩
        case measure=>simp;omega
end Go.Proofs.YtaceiajcecaapaaGreat
