import Derived.Test.YtmdinnjimioffaaGreatOwnS
import Derived.Test.YtmdinnjimioffaaGreatJMath
import Derived.Test.YtmdinnjimioffaaGreatRows
import Derived.WalkSpells
import Derived.WalkLawsBesides
import Derived.RegionTactic
import Derived.BigRegion
import Derived.BigQuiet
import Derived.Deep.QuietTactic
import Derived.OpenShut
namespace Go.Proofs.YtmdinnjimioffaaGreat
open Go.RowKit
set_option maxRecDepth 100000 in
set_option maxHeartbeats 800000 in
theorem l01Split_any(s:ByteArray)(w:World)(hs:s.size<=maxLen):
 Calls Tryz.prog 44 #[.string s] w fun e w'=>∃ v,e=.returned (.tuple #[v,.bool (Nm.split s).isSome])∧
  w'.ownsRow w.heap.size 9 1 v ((Nm.split s).getD []).length (((Nm.split s).getD []).map Value.string)∧Below w.heap.size w w':=by
 unfold maxLen at hs;obtain⟨i0,hi,hz0,hz1,hz2⟩:=info_parts Tryz.infoStr
 by_cases hlong:255<s.size
 ·have H:Hid (Nm.split s=none):=Nm.split_long s hlong;have hl:(255:Int)<(s.size:Int):=by omega
  go_enter Tryz.func44,Tryz.ntmps44;go_wp2;go_ret2;rw [H.out];exact⟨_,rfl,World.ownsRow_nil _ _ _ _,(Below.refl _ _).alloc (Nat.le_refl _) _⟩
 by_cases hshort:s.size=0
 ·have H:Hid (Nm.split s=none):=Nm.at_empty (Nm.at_start s (by omega)) hshort;have hl:(s.size:Int)<1:=by omega
  go_enter Tryz.func44,Tryz.ntmps44;go_wp2;go_ret2;rw [H.out];exact⟨_,rfl,World.ownsRow_nil _ _ _ _,(Below.refl _ _).alloc (Nat.le_refl _) _⟩
 ·have hl:(s.size:Int)<=255:=by omega
  have hl1:(1:Int)<=(s.size:Int):=by omega
  have hst:=Nm.at_start s (by omega);go_enter Tryz.func44,Tryz.ntmps44;go_wp2
  go_loopw [4,5] (fun v x wr=>∃ (ls:List ByteArray) (r:ByteArray),x=.string r∧Nm.At s ls r∧ls.length+r.size<=255∧wr.ownsRow w.heap.size 9 1 v ls.length (ls.map Value.string)∧Below w.heap.size w wr)
   (fun _ x _=>match x with|.string r=>r.size|_=>0)
  case atStart=>exact⟨[],s,rfl,hst,by simp;omega,World.ownsRow_made w #[] 0 (Nat.le_refl _) (by decide) rfl,(Below.refl _ _).alloc (Nat.le_refl _) _⟩
  case round=>
   obtain⟨ls,r,rfl,hat,hb,hown,hbel⟩:=hrel;clear hst
   by_cases h0:r.size=0
   ·have HN:Hid (Nm.split s=none):=Nm.at_empty hat h0;have e2:=Nm.tl_empty h0;go_wp2;go_ret2;rw [HN.out];exact⟨_,rfl,World.ownsRow_nil _ _ _ _,hbel⟩
   ·have hp:0<r.size:=by omega
    have hn:(r[0].toNat:Int)<256:=by have:=r[0].toNat_lt;omega
    have e2:=Nm.tl_not_empty hp
    by_cases h2:r[0].toNat=0
    ·have e3:((r[0].toNat:Int)==0)=true:=by simp [h2]
     by_cases h1:r.size=1
     ·have HN:Hid (Nm.split s=some ls):=Nm.at_end hat hp h2 h1;have e4:((r.size:Int) != 1)=false:=by simp [h1]
      clear h1 h2;go_wp2;go_ret2;rw [HN.out];exact⟨_,rfl,hown,hbel⟩
     ·have HN:Hid (Nm.split s=none):=Nm.at_zero hat hp h2 h1;have e4:((r.size:Int) != 1)=true:=by rw [bne_iff_ne];omega
      clear h1 h2;go_wp2;go_ret2;rw [HN.out];exact⟨_,rfl,World.ownsRow_nil _ _ _ _,hbel⟩
    ·have e3:((r[0].toNat:Int)==0)=false:=by rw [beq_eq_false_iff_ne];omega
     have e3':(0:Int)<(r[0].toNat:Int):=by omega
     by_cases h3:63<r[0].toNat
     ·have HN:Hid (Nm.split s=none):=Nm.at_bad hat hp h2 (.inl h3);have e4:(63:Int)<(r[0].toNat:Int):=by omega
      clear h2 h0 h3;go_wp2;go_ret2;rw [HN.out];exact⟨_,rfl,World.ownsRow_nil _ _ _ _,hbel⟩
     ·have e4:(r[0].toNat:Int)<=63:=by omega
      by_cases h4:r.size<r[0].toNat+1
      ·have HN:Hid (Nm.split s=none):=Nm.at_bad hat hp h2 (.inr h4);have e5:(r.size:Int)<(r[0].toNat:Int)+1:=by omega
       clear h2 h0 h3 h4;go_wp2;go_ret2;rw [HN.out];exact⟨_,rfl,World.ownsRow_nil _ _ _ _,hbel⟩
      ·have e5:(r[0].toNat:Int)+1<=(r.size:Int):=by omega
       have HN:Hid (Nm.At s (ls++[r.extract 1 (r[0].toNat+1)]) (r.extract (r[0].toNat+1) r.size)):=Nm.at_step hat hp h2 (by omega) (by omega);have hsz:=hbel.size;clear h2 h0 h3 h4;go_wp2_with (at_builtin;refine wpList_append_own _ rfl (.tmp 37) (.tmp 42) 51 rfl w.heap.size 9 i0 (.string ByteArray.empty) 1 16 Tryz.underlying51 hi hz0 hz1 hz2 rfl (by decide) _ _ _ rfl (hown.alloc _) ⟨wr.heap.size,0,none⟩ 1 1 [.string (r.extract 1 (r[0].toNat+1))] rfl rfl ?c1 ?c2 ?c3 ?c4 ?c5 ?_)
       case c1=>
        intro j u hj
        match j,hj with
        |0,hj=>simp at hj;subst hj;simp [Addr.add]
       case c2=>exact Nm.one_cell _ rfl
       case c3=>unfold maxLen;omega
       case c4=>omega
       case c5=>simp;omega
       ·intro v' w1 hown' hgrow _;have R:=own_step hsz hown hbel _ hown' hgrow;clear hown' hgrow hown hbel;go_wp2;go_roundw
        case rel=>exact⟨_,_,rfl,HN.out,by simp;omega,R.1,R.2⟩
        case measure=>simp;omega
end Go.Proofs.YtmdinnjimioffaaGreat
namespace Go.Proofs.YtmdinnjimioffaaGreat
open Go.RowKit
def CodeAt(w:World)(g:Nat)(a:Option Addr)(n:Nat):Prop:=
 n=0∨∃ b off,a=some ⟨b,off,none⟩∧b≠g∧∀ i,i<n->∃ c:Int,w.cell? ⟨b,off+i,none⟩=some (.int .u8 c)∧0<=c∧c<256
def Src(w:World)(g:Nat)(a:Option Addr)(n cap:Nat):Prop:=
 ∃ pos st:Int,w.heap[g]? =some (.cells #[.slice a n cap,.int .i64 pos,.int .u64 st] 40 (0,0))∧0<=pos∧pos<=n∧n<=1048576∧CodeAt w g a n
theorem code_set{w:World}{g i:Nat}{a:Option Addr}{n:Nat}{v:Value}(h:CodeAt w g a n):CodeAt (w.setCell ⟨g,i,none⟩ v) g a n:=by
 rcases h with h|⟨b,off,e,hb,hc⟩
 ·exact .inl h
 ·refine .inr ⟨b,off,e,hb,fun j hj=>?_⟩;obtain⟨c,h1,h2⟩:=hc j hj;refine⟨c,?_,h2⟩;rw [World.cell?_setCell_other w ⟨g,i,none⟩ ⟨b,off+j,none⟩ v (by intro h;cases h;exact hb rfl)];exact h1
theorem src_one{w:World}{g n cap:Nat}{a:Option Addr}{pos st:Int}(hb:w.heap[g]? =some (.cells #[.slice a n cap,.int .i64 pos,.int .u64 st] 40 (0,0)))(hp0:0<=pos)(hpn:pos<=n)(hn:n<=1048576)(hc:CodeAt w g a n)(s2:Int):
 Src (w.setCell ⟨g,2,none⟩ (.int .u64 s2)) g a n cap∧w.grownBy (w.setCell ⟨g,2,none⟩ (.int .u64 s2)) (some g):=by
 refine⟨⟨pos,s2,?_,hp0,hpn,hn,code_set hc⟩,⟨rfl,rfl,rfl,by simp,fun k _ hk=>heap_setCell_other w ⟨g,2,none⟩ k _ (fun e=>hk (by simp [e]))⟩⟩;rw [heap_setCell_same w g 2 _ _ _ hb];rfl
theorem src_two{w:World}{g n cap:Nat}{a:Option Addr}{pos st:Int}(hb:w.heap[g]? =some (.cells #[.slice a n cap,.int .i64 pos,.int .u64 st] 40 (0,0)))(hn:n<=1048576)(hc:CodeAt w g a n)(s2 p2:Int)(hp0:0<=p2)(hpn:p2<=n):
 Src ((w.setCell ⟨g,2,none⟩ (.int .u64 s2)).setCell ⟨g,1,none⟩ (.int .i64 p2)) g a n cap∧w.grownBy ((w.setCell ⟨g,2,none⟩ (.int .u64 s2)).setCell ⟨g,1,none⟩ (.int .i64 p2)) (some g):=by
 have h1:=heap_setCell_same w g 2 _ _ (.int .u64 s2) hb;have h2:=heap_setCell_same _ g 1 _ _ (.int .i64 p2) h1;refine⟨⟨p2,s2,?_,hp0,hpn,hn,code_set (code_set hc)⟩,⟨rfl,rfl,rfl,by simp,fun k _ hk=>?_⟩⟩
 ·rw [h2];rfl
 ·rw [heap_setCell_other _ ⟨g,1,none⟩ k _ (fun e=>hk (by simp [e])),heap_setCell_other w ⟨g,2,none⟩ k _ (fun e=>hk (by simp [e]))]
theorem grown_drewS{w w':World}{row:Option Nat}(h:w.grownBy w' row):w.grownBy w'.drew row:=⟨h.os,h.tape,h.output,h.size,h.block⟩
theorem grown_step{w w1 w2:World}{g:Nat}(h:w.grownBy w1 (some g))(h2:w1.grownBy w2 (some g)):w.grownBy w2 (some g):=
 ⟨h2.os.trans h.os,h2.tape.trans h.tape,h2.output.trans h.output,Nat.le_trans h.size h2.size,fun k hk hne=>(h2.block k (Nat.lt_of_lt_of_le hk h.size) hne).trans (h.block k hk hne)⟩
theorem grown_own{w w1 w2:World}{g:Nat}{row:Option Nat}(h:w.grownBy w1 (some g))(h2:w1.grownBy w2 row)(hr:∀ k,row=some k->w.heap.size<=k):w.grownBy w2 (some g):=
 ⟨h2.os.trans h.os,h2.tape.trans h.tape,h2.output.trans h.output,Nat.le_trans h.size h2.size,fun k hk hne=>
  (h2.block k (Nat.lt_of_lt_of_le hk h.size) (fun e=>by have:=hr k e.symm;omega)).trans (h.block k hk hne)⟩
theorem grown_below{w w1 w2:World}{g:Nat}(h:w.grownBy w1 (some g))(h2:Below w1.heap.size w1 w2):w.grownBy w2 (some g):=
 ⟨h2.os.trans h.os,h2.tape.trans h.tape,h2.output.trans h.output,Nat.le_trans h.size h2.size,fun k hk hne=>
  (h2.block k (Nat.lt_of_lt_of_le hk h.size)).trans (h.block k hk hne)⟩
theorem grown_alloc{w w1:World}{g:Nat}(h:w.grownBy w1 (some g))(o:Obj):w.grownBy (w1.alloc o) (some g):=
 grown_below h ((Below.refl _ _).alloc (Nat.le_refl _) o)
theorem src_below{w w1:World}{g n cap:Nat}{a:Option Addr}(h:Src w g a n cap)(hb:Below w.heap.size w w1):Src w1 g a n cap:=by
 obtain⟨pos,st,h1,h2,h3,h4,h5⟩:=h;refine⟨pos,st,?_,h2,h3,h4,?_⟩
 ·rw [hb.block g (Array.getElem?_eq_some_iff.1 h1).1];exact h1
 ·rcases h5 with h5|⟨b,off,e,hne,hc⟩
  ·exact .inl h5
  ·refine .inr ⟨b,off,e,hne,fun j hj=>?_⟩;obtain⟨c,hc1,hc2⟩:=hc j hj;exact⟨c,(hb.cell (World.block_lt_of_cell? w _ hc1)).trans hc1,hc2⟩
theorem src_grown{w w0 w1:World}{g n cap:Nat}{a:Option Addr}{row:Option Nat}(h:Src w g a n cap)(hg:w.grownBy w1 row)(hr:∀ k,row=some k->w0.heap.size<=k)(hlt:g<w0.heap.size)(hcode:CodeAt w0 g a n):Src w1 g a n cap:=by
 obtain⟨pos,st,h1,h2,h3,h4,h5⟩:=h;refine⟨pos,st,?_,h2,h3,h4,?_⟩
 ·rw [hg.block g (Array.getElem?_eq_some_iff.1 h1).1 (fun e=>by have:=hr g e.symm;omega)];exact h1
 ·rcases h5 with h5|⟨b,off,e,hne,hc⟩
  ·exact .inl h5
  ·rcases hcode with h6|⟨b',off',e',_,hc'⟩
   ·exact .inl h6
   ·rw [e] at e';simp only [Option.some.injEq,Addr.mk.injEq,and_true] at e';obtain⟨rfl,rfl⟩:=e';refine .inr ⟨b,off,e,hne,fun j hj=>?_⟩;obtain⟨c,hc1,hc2⟩:=hc j hj;obtain⟨c',hc1',_⟩:=hc' j hj;have hbl:=World.block_lt_of_cell? w0 _ hc1';exact⟨c,hg.cell hc1 (fun e=>by have h7:=hr b e.symm;have h8:b<w0.heap.size:=hbl;omega),hc2⟩
theorem src_code{w:World}{g n cap:Nat}{a:Option Addr}(h:Src w g a n cap):CodeAt w g a n∧g<w.heap.size:=by
 obtain⟨pos,st,h1,h2,h3,h4,h5⟩:=h;exact⟨h5,(Array.getElem?_eq_some_iff.1 h1).1⟩
theorem row_src{w:World}{B e m g n cap:Nat}{a:Option Addr}{v:Value}{xs:List Value}(h:w.ownsRow B e 1 v m xs)(hs:Src w g a n cap)(hne:e≠40):v.ownBlock=none∨v.ownBlock≠some g:=by
 obtain⟨pos,st,h1,_⟩:=hs
 rcases h.2 with⟨rfl,_⟩|⟨g',cap',cur,rfl,_,hh,_⟩
 ·exact .inl rfl
 ·right;simp only [Value.ownBlock,ne_eq,Option.some.injEq];intro e2;subst e2;rw [hh] at h1;simp at h1;exact hne h1.2
theorem next_bound{x N:Int}(hx:0<=x)(h1:1<=N)(h2:N<=4294967296):0<=wrap64 (x.tmod N)∧wrap64 (x.tmod N)<N:=by
 have a1:0<=x.tmod N:=Int.tmod_nonneg N hx;have a2:x.tmod N<N:=Int.tmod_lt_of_pos x (by omega);rw [IntWalk.wrap64_in (x.tmod N) ⟨by omega,by omega⟩];exact⟨a1,a2⟩
theorem u64_nn(k:Int):0<=IntKind.u64.wrap k:=(bounds_u64 (wf_wrap .u64 k)).1
theorem bits_nn(op:BinOp)(x y:Int):0<=bits op .u64 x y:=(bounds_u64 (wf_bits op .u64 x y)).1
set_option maxRecDepth 100000 in
set_option maxHeartbeats 800000 in
theorem l01Next_any(g:Nat)(a:Option Addr)(n cap:Nat)(N:Int)(w:World)(h:Src w g a n cap)(hN:N<=4294967296):
 Calls Tryz.prog 14 #[.pointer (some ⟨g,0,none⟩),.int .i64 N] w fun e w'=>∃ r:Int,e=.returned (.int .i64 r)∧0<=r∧(0<N->r<N)∧Src w' g a n cap∧w.grownBy w' (some g):=by
 obtain⟨pos,st,hb,hp0,hpn,hn,hcode⟩:=h
 by_cases hN0:N<=0
 ·go_enter Tryz.func14,Tryz.ntmps14;go_wp2;go_ret;exact⟨0,rfl,by omega,by omega,⟨pos,st,hb,hp0,hpn,hn,hcode⟩,World.grownBy.refl _ _⟩
 ·have c0:w.cell? ⟨g,0,none⟩=some (.slice a n cap):=by rw [cell_of_row _ _ _ _ _ _ hb];rfl
  have c1:w.cell? ⟨g,1,none⟩=some (.int .i64 pos):=by rw [cell_of_row _ _ _ _ _ _ hb];rfl
  have c2:w.cell? ⟨g,2,none⟩=some (.int .u64 st):=by rw [cell_of_row _ _ _ _ _ _ hb];rfl
  have f0:=frozen_of_row w g 0 _ _ hb;have f1:=frozen_of_row w g 1 _ _ hb;have f2:=frozen_of_row w g 2 _ _ hb;have hN1:1<=N:=by omega
  by_cases hlt:pos<n
  ·obtain⟨b,off,rfl,hbg,hcell⟩:=hcode.resolve_left (by omega);obtain⟨k,rfl⟩:=Int.eq_ofNat_of_zero_le hp0;obtain⟨c,hc,hc0,hc1⟩:=hcell k (by omega);have HS:=fun s2=>Nm.hide (src_two hb hn hcode s2 ((k:Int)+1) (by omega) (by omega))
   clear hb hcode;go_enter Tryz.func14,Tryz.ntmps14;go_wp2;go_region
   go_wp2;go_region
   go_wp2;go_ret;have B:=next_bound (N:=N) (bits_nn .xor (IntKind.u64.wrap (IntKind.u64.wrap (st*6364136223846793005)+1442695040888963407) / 8589934592) c) hN1 hN;exact⟨_,rfl,B.1,fun _=>B.2,(HS _).out.1,grown_drewS (grown_drewS (HS _).out.2)⟩
  ·have HS:=fun s2=>Nm.hide (src_one hb hp0 hpn hn hcode s2)
   have hge:(n:Int)<=pos:=by omega
   clear hb hcode;go_enter Tryz.func14,Tryz.ntmps14;go_wp2;go_region
   go_wp2;go_ret;have B:=next_bound (N:=N) (x:=IntKind.u64.wrap (IntKind.u64.wrap (st*6364136223846793005)+1442695040888963407) / 8589934592) (Int.ediv_nonneg (u64_nn _) (by decide)) hN1 hN;exact⟨_,rfl,B.1,fun _=>B.2,(HS _).out.1,grown_drewS (HS _).out.2⟩
end Go.Proofs.YtmdinnjimioffaaGreat
