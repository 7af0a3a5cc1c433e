import Derived.Test.YtfmolgdfjklmpaaGreatJSls
import Derived.Test.YtfmolgdfjklmpaaGreatJMath
import Derived.Test.YtfmolgdfjklmpaaGreatJTbPS
import Derived.Test.YtfmolgdfjklmpaaGreatJTrM
import Derived.RegionTactic
import Derived.WalkKit
import Derived.Test.YtfmolgdfjklmpaaGreatJCutM
import Derived.Deep.RegionLaw
import Derived.BigRegion
import Derived.BigQuiet
import Derived.Deep.WholeRow
import Derived.Deep.CutRange
import Derived.Lib.SliceRun
import Derived.Test.YtfmolgdfjklmpaaGreatJCmp2
import Derived.Laws.AppendOwn
import Derived.Tactics
namespace Go.Proofs.YtfmolgdfjklmpaaGreat
open Go.RowKit
set_option linter.unusedVariables false
def recsOf(s:Sz):List Rr:=s.da.map fun d=>⟨s.own,s.ty,1,s.tt,d⟩
def recsAll(ps:List Zp):List Rr:=ps.flatMap fun p=>recsOf p.1
def dsum:List Zp->Nat
 |[]=>0
 |x::xs=>x.1.da.length+dsum xs
def zoneRecs(ps:List Zp):List Rr:=if 500<ps.length∨500<dsum ps then [] else recsAll ps
theorem recsOf_len(s:Sz):(recsOf s).length=s.da.length:=by simp [recsOf]
theorem recsOf_get{s:Sz}{k:Nat}{d:ByteArray}(h:s.da[k]? =some d):(recsOf s).take (k+1)=(recsOf s).take k++[⟨s.own,s.ty,1,s.tt,d⟩]:=by
 rw [List.take_add_one];congr 1;simp [recsOf,h]
theorem dsum_step:∀ (xs:List Zp) (k:Nat) (x:Zp),xs[k]? =some x->dsum (xs.take (k+1))=dsum (xs.take k)+x.1.da.length:=by
 intro xs
 induction xs with
 |nil=>intro k x h;simp at h
 |cons y xs ih=>
  intro k x h
  cases k with
  |zero=>simp at h;subst h;simp [dsum]
  |succ k=>
   simp at h;have:=ih k x h;simp only [List.take_succ_cons,dsum];omega
theorem dsum_take_le:∀ (xs:List Zp) (k:Nat),dsum (xs.take k)<=dsum xs:=by
 intro xs
 induction xs with
 |nil=>intro k;simp [dsum]
 |cons y xs ih=>
  intro k
  cases k with
  |zero=>simp [dsum]
  |succ k=>have:=ih k;simp only [List.take_succ_cons,dsum];omega
theorem dsum_le(ps:List Zp):dsum ps<=zsum ps:=by
 induction ps with
 |nil=>simp [dsum,zsum]
 |cons y ps ih=>simp only [dsum,zsum,zs1];omega
theorem recsAll_step{ps:List Zp}{k:Nat}{x:Zp}(h:ps[k]? =some x):recsAll (ps.take (k+1))=recsAll (ps.take k)++recsOf x.1:=by
 rw [List.take_add_one,h];simp [recsAll]
theorem recsAll_len(ps:List Zp):(recsAll ps).length=dsum ps:=by
 induction ps with
 |nil=>rfl
 |cons y ps ih=>
  have:recsAll (y::ps)=recsOf y.1++recsAll ps:=by simp [recsAll]
  rw [this,List.length_append,recsOf_len,ih,dsum]
theorem rv_one(r:Rr):∀ u∈rvV r,u.oneCell'=true:=by
 intro u hu;simp [rvV] at hu
 rcases hu with rfl|rfl|rfl|rfl|rfl<;>rfl
theorem rvs_one(xs:List Rr):∀ u∈rvVs xs,u.oneCell'=true:=by
 intro u hu;simp only [rvVs,List.mem_flatMap] at hu;obtain⟨r,_,h⟩:=hu;exact rv_one r u h
theorem cell_newV(w:World)(cs:Array Value)(e:Nat):∀ (j:Nat) (u:Value),cs.toList[j]? =some u->(w.alloc (.cells cs e)).cell? ((⟨w.heap.size,0,none⟩:Addr).add j)=some u:=by
 intro j u h;rw [Nm.addr_add,Nat.zero_add];have:(w.alloc (.cells cs e)).heap[w.heap.size]? =some (.cells cs e (0,0)):=by show(w.heap.push _)[w.heap.size]? =_;simp
 rw [cell_of_row _ _ _ _ _ _ this];simpa using h
set_option maxRecDepth 100000 in
set_option maxHeartbeats 1600000 in
theorem getI_in(g B:Nat)(cmpv rv key:Value)(rs:List (Value×Value))(cf:Nat->Int)(k:Nat)(p:Value×Value)(w:World)(hg:Blk w g #[cmpv,rv] 180)(h:w.ownsRow B 182 2 rv rs.length (rowCs rs))(hl:rs.length<=1000000)
 (hf:∀ (tb i:Nat) (p:Value×Value),rs[i]? =some p->∀ W,Below w.heap.size w W->Blk W tb #[.pointer (some ⟨g,0,none⟩)] 125->Calls Tryz.prog 184 #[.agg #[p.1,p.2],key,.pointer (some ⟨tb,0,none⟩)] W fun e w'=>e=.returned (.int .i64 (cf i))∧Below W.heap.size W w')
 (hm:∀ a b,a<=b->b<rs.length->cf b<0->cf a<0) (hk:Fnd rs.length cf k) (hp:rs[k]? =some p) (h0:cf k=0):
 Calls Tryz.prog 125 #[.pointer (some ⟨g,0,none⟩),key] w fun e w'=>e=.returned (.tuple #[p.2,.bool true])∧Below w.heap.size w w':=by
 have hpl:=placeI_any g cmpv rv key rs cf w hg (CRow.of_owns h) hl hf hm;have hkl:=(List.getElem?_eq_some_iff.1 hp).1;have at1:=rowCs_at rs k 1 p hp (by decide);obtain⟨_,a,cap,rfl,hcap,hmx,hc⟩:=CRow.of_owns h;obtain⟨b,off,rfl,hcell⟩:=hc (by omega);have c1:=hcell _ _ at1;have HK:=Nm.hide hk;have H0:=Nm.hide (And.intro hkl h0);unfold maxLen at hmx;have n1:(0:Int)<=(k:Int):=by omega
 have n2:(k:Int)<(rs.length:Int):=by omega
 clear hf hm hk hp h0 h hcell hc at1;go_enter Tryz.func125,Tryz.ntmps125;go_wp2_with fail
 refine hpl.mono ?_;rintro e w1 ⟨k',hk',rfl,b1⟩;obtain rfl:=Fnd.unique HK.out hk';rw [decide_eq_true H0.out.1,decide_eq_true H0.out.2];have kg:=blk_below hg b1;have rg:=fun i=>blk_cell kg i
 have d1:w1.cell? ⟨b,off+k*2+1,none⟩=some p.2:=(b1.cell (World.block_lt_of_cell? w _ c1)).trans c1;have tt:(true&&true)=true:=rfl;clear hpl hk' c1 H0;go_wp2;go_ret2;exact⟨rfl,b1⟩
set_option maxRecDepth 100000 in
set_option maxHeartbeats 1600000 in
theorem getI_out(g B:Nat)(cmpv rv key:Value)(rs:List (Value×Value))(cf:Nat->Int)(k:Nat)(w:World)(hg:Blk w g #[cmpv,rv] 180)(h:w.ownsRow B 182 2 rv rs.length (rowCs rs))(hl:rs.length<=1000000)
 (hf:∀ (tb i:Nat) (p:Value×Value),rs[i]? =some p->∀ W,Below w.heap.size w W->Blk W tb #[.pointer (some ⟨g,0,none⟩)] 125->Calls Tryz.prog 184 #[.agg #[p.1,p.2],key,.pointer (some ⟨tb,0,none⟩)] W fun e w'=>e=.returned (.int .i64 (cf i))∧Below W.heap.size W w')
 (hm:∀ a b,a<=b->b<rs.length->cf b<0->cf a<0) (hk:Fnd rs.length cf k) (h0:¬(k<rs.length∧cf k=0)):
 Calls Tryz.prog 125 #[.pointer (some ⟨g,0,none⟩),key] w fun e w'=>e=.returned (.tuple #[.pointer none,.bool false])∧Below w.heap.size w w':=by
 have hpl:=placeI_any g cmpv rv key rs cf w hg (CRow.of_owns h) hl hf hm;have HK:=Nm.hide hk
 have H0:Hid ((decide (k<rs.length)&&decide (cf k=0))=false):=by
  show _=_
  rw [Bool.and_eq_false_iff]
  by_cases hx:k<rs.length
  ·exact .inr (decide_eq_false (fun h=>h0 ⟨hx,h⟩))
  ·exact .inl (decide_eq_false hx)
 clear hf hm hk h0 h;go_enter Tryz.func125,Tryz.ntmps125;go_wp2_with fail
 refine hpl.mono ?_;rintro e w1 ⟨k',hk',rfl,b1⟩;obtain rfl:=Fnd.unique HK.out hk';rw [H0.out];clear hpl hk' H0;go_wp2;go_ret2;exact⟨rfl,b1⟩
set_option maxRecDepth 100000 in
set_option maxHeartbeats 1600000 in
theorem getL_in(g B:Nat)(cmpv rv key:Value)(rs:List (Value×Value))(cf:Nat->Int)(k:Nat)(p:Value×Value)(w:World)(hg:Blk w g #[cmpv,rv] 173)(h:w.ownsRow B 175 2 rv rs.length (rowCs rs))(hl:rs.length<=1000000)
 (hf:∀ (tb i:Nat) (p:Value×Value),rs[i]? =some p->∀ W,Below w.heap.size w W->Blk W tb #[.pointer (some ⟨g,0,none⟩)] 86->Calls Tryz.prog 188 #[.agg #[p.1,p.2],key,.pointer (some ⟨tb,0,none⟩)] W fun e w'=>e=.returned (.int .i64 (cf i))∧Below W.heap.size W w')
 (hm:∀ a b,a<=b->b<rs.length->cf b<0->cf a<0) (hk:Fnd rs.length cf k) (hp:rs[k]? =some p) (h0:cf k=0):
 Calls Tryz.prog 132 #[.pointer (some ⟨g,0,none⟩),key] w fun e w'=>e=.returned (.tuple #[p.2,.bool true])∧Below w.heap.size w w':=by
 have hpl:=placeL_any g cmpv rv key rs cf w hg (CRow.of_owns h) hl hf hm;have hkl:=(List.getElem?_eq_some_iff.1 hp).1;have at1:=rowCs_at rs k 1 p hp (by decide);obtain⟨_,a,cap,rfl,hcap,hmx,hc⟩:=CRow.of_owns h;obtain⟨b,off,rfl,hcell⟩:=hc (by omega);have c1:=hcell _ _ at1;have HK:=Nm.hide hk;have H0:=Nm.hide (And.intro hkl h0);unfold maxLen at hmx;have n1:(0:Int)<=(k:Int):=by omega
 have n2:(k:Int)<(rs.length:Int):=by omega
 clear hf hm hk hp h0 h hcell hc at1;go_enter Tryz.func132,Tryz.ntmps132;go_wp2_with fail
 refine hpl.mono ?_;rintro e w1 ⟨k',hk',rfl,b1⟩;obtain rfl:=Fnd.unique HK.out hk';rw [decide_eq_true H0.out.1,decide_eq_true H0.out.2];have kg:=blk_below hg b1;have rg:=fun i=>blk_cell kg i
 have d1:w1.cell? ⟨b,off+k*2+1,none⟩=some p.2:=(b1.cell (World.block_lt_of_cell? w _ c1)).trans c1;have tt:(true&&true)=true:=rfl;clear hpl hk' c1 H0;go_wp2;go_ret2;exact⟨rfl,b1⟩
set_option maxRecDepth 100000 in
set_option maxHeartbeats 1600000 in
theorem getL_out(g B:Nat)(cmpv rv key:Value)(rs:List (Value×Value))(cf:Nat->Int)(k:Nat)(w:World)(hg:Blk w g #[cmpv,rv] 173)(h:w.ownsRow B 175 2 rv rs.length (rowCs rs))(hl:rs.length<=1000000)
 (hf:∀ (tb i:Nat) (p:Value×Value),rs[i]? =some p->∀ W,Below w.heap.size w W->Blk W tb #[.pointer (some ⟨g,0,none⟩)] 86->Calls Tryz.prog 188 #[.agg #[p.1,p.2],key,.pointer (some ⟨tb,0,none⟩)] W fun e w'=>e=.returned (.int .i64 (cf i))∧Below W.heap.size W w')
 (hm:∀ a b,a<=b->b<rs.length->cf b<0->cf a<0) (hk:Fnd rs.length cf k) (h0:¬(k<rs.length∧cf k=0)):
 Calls Tryz.prog 132 #[.pointer (some ⟨g,0,none⟩),key] w fun e w'=>e=.returned (.tuple #[.pointer none,.bool false])∧Below w.heap.size w w':=by
 have hpl:=placeL_any g cmpv rv key rs cf w hg (CRow.of_owns h) hl hf hm;have HK:=Nm.hide hk
 have H0:Hid ((decide (k<rs.length)&&decide (cf k=0))=false):=by
  show _=_
  rw [Bool.and_eq_false_iff]
  by_cases hx:k<rs.length
  ·exact .inr (decide_eq_false (fun h=>h0 ⟨hx,h⟩))
  ·exact .inl (decide_eq_false hx)
 clear hf hm hk h0 h;go_enter Tryz.func132,Tryz.ntmps132;go_wp2_with fail
 refine hpl.mono ?_;rintro e w1 ⟨k',hk',rfl,b1⟩;obtain rfl:=Fnd.unique HK.out hk';rw [H0.out];clear hpl hk' H0;go_wp2;go_ret2;exact⟨rfl,b1⟩
def metaB(t:Int):Bool:=t==0||t==41||(decide (249<=t)&&decide (t<=255))
set_option maxRecDepth 100000 in
set_option maxHeartbeats 400000 in
theorem isMeta_any(t:Int)(w:World):Calls Tryz.prog 131 #[.int .i64 t] w fun e w'=>e=.returned (.bool (metaB t))∧w'=w:=by
 by_cases h0:t=0
 ·subst h0;go_enter Tryz.func131,Tryz.ntmps131;go_wp2;go_ret;exact⟨rfl,rfl⟩
 ·have e0:(t==0)=false:=by rw [beq_eq_false_iff_ne];exact h0
  by_cases h1:t=41
  ·subst h1;go_enter Tryz.func131,Tryz.ntmps131;go_wp2;go_ret;exact⟨rfl,rfl⟩
  ·have e1:(t==41)=false:=by rw [beq_eq_false_iff_ne];exact h1
   by_cases h2:249<=t
   ·by_cases h3:t<=255
    ·have HM:Hid (metaB t=true):=by show _=_;simp [metaB,h2,h3]
     go_enter Tryz.func131,Tryz.ntmps131;go_wp2;go_ret;rw [HM.out];exact⟨rfl,rfl⟩
    ·have h3':255<t:=by omega
     have HM:Hid (metaB t=false):=by show _=_;simp [metaB,h0,h1];omega
     go_enter Tryz.func131,Tryz.ntmps131;go_wp2;go_ret;rw [HM.out];exact⟨rfl,rfl⟩
   ·have h2':t<249:=by omega
    have HM:Hid (metaB t=false):=by show _=_;simp [metaB,h0,h1];omega
    go_enter Tryz.func131,Tryz.ntmps131;go_wp2;go_ret;rw [HM.out];exact⟨rfl,rfl⟩
set_option maxRecDepth 100000 in
set_option maxHeartbeats 400000 in
theorem l05Meta_any(t:Int)(w:World):Calls Tryz.prog 59 #[.int .i64 t] w fun e w'=>e=.returned (.bool (metaB t))∧w'=w:=by
 by_cases h0:t=0
 ·subst h0;go_enter Tryz.func59,Tryz.ntmps59;go_wp2;go_ret;exact⟨rfl,rfl⟩
 ·have e0:(t==0)=false:=by rw [beq_eq_false_iff_ne];exact h0
  by_cases h1:t=41
  ·subst h1;go_enter Tryz.func59,Tryz.ntmps59;go_wp2;go_ret;exact⟨rfl,rfl⟩
  ·have e1:(t==41)=false:=by rw [beq_eq_false_iff_ne];exact h1
   by_cases h2:249<=t
   ·by_cases h3:t<=255
    ·have HM:Hid (metaB t=true):=by show _=_;simp [metaB,h2,h3]
     go_enter Tryz.func59,Tryz.ntmps59;go_wp2;go_ret;rw [HM.out];exact⟨rfl,rfl⟩
    ·have h3':255<t:=by omega
     have HM:Hid (metaB t=false):=by show _=_;simp [metaB,h0,h1];omega
     go_enter Tryz.func59,Tryz.ntmps59;go_wp2;go_ret;rw [HM.out];exact⟨rfl,rfl⟩
   ·have h2':t<249:=by omega
    have HM:Hid (metaB t=false):=by show _=_;simp [metaB,h0,h1];omega
    go_enter Tryz.func59,Tryz.ntmps59;go_wp2;go_ret;rw [HM.out];exact⟨rfl,rfl⟩
end Go.Proofs.YtfmolgdfjklmpaaGreat
namespace Go.Proofs.YtfmolgdfjklmpaaGreat
open Go.RowKit
set_option maxRecDepth 100000 in
set_option maxHeartbeats 800000 in
theorem splitName_any(s:ByteArray)(w:World)(_:s.size<=maxLen):
 Calls Tryz.prog 86 #[.string s] w fun e w'=>∃ v,e=.returned (.tuple #[v,.bool (Nm.split s).isSome])∧
  w'.ownsRow w.heap.size 9 1 v ((Nm.split s).getD []).length (((Nm.split s).getD []).map Value.string)∧Below w.heap.size w w':=by
 obtain⟨i0,hi,hz0,hz1,hz2⟩:=info_parts Tryz.infoStr;have hcall:=implNameOK_same s
 cases hq:Nm.split s with
 |none=>
  rw [hq] at hcall;simp only [Option.isSome_none] at hcall;clear hq;go_enter Tryz.func86,Tryz.ntmps86;go_wp2_with (go_at_call 128;refine(hcall _).mono ?_;rintro e w1 ⟨rfl,hw⟩;obtain rfl:w=w1:=hw.symm;clear hw)
  go_ret2
  exact⟨_,rfl,World.ownsRow_nil _ _ _ _,Below.refl _ _⟩
 |some L=>
  have hz:=Nm.split_size hq;have hst:=Nm.at_start s hz.2;have HQ:=Nm.hide hq;rw [hq] at hcall;simp only [Option.isSome_some] at hcall;clear hq;have hz2':=hz.2;clear hz;go_enter Tryz.func86,Tryz.ntmps86;go_wp2_with (go_at_call 128;refine(hcall _).mono ?_;rintro e w1 ⟨rfl,hw⟩;obtain rfl:w=w1:=hw.symm;clear hw)
  go_loopw [4,5] (fun v x wr=>∃ (ls:List ByteArray) (r:ByteArray),x=.string r∧Nm.At s ls r∧ls.length+r.size<=255∧wr.ownsRow w.heap.size 9 1 v ls.length (ls.map Value.string)∧Below w.heap.size w wr)
   (fun _ x _=>match x with|.string r=>r.size|_=>0)
  case atStart=>exact⟨[],s,rfl,hst,by simp;omega,World.ownsRow_nil _ _ _ _,Below.refl _ _⟩
  case round=>
   obtain⟨ls,r,rfl,hat,hb,hown,hbel⟩:=hrel;clear hst;have hq:=HQ.out
   by_cases h0:r.size=0
   ·rw [Nm.at_empty hat h0] at hq;simp at hq
   ·have hp:0<r.size:=by omega
    have hn:(r[0].toNat:Int)<256:=by have:=r[0].toNat_lt;omega
    by_cases h1:r.size=1∧r[0].toNat=0
    ·have hL:L=ls:=by
      have:=Nm.at_end hat hp h1.2 h1.1;rw [hq] at this;simpa using this
     have e1:=Nm.tl_one hp h1.1 h1.2;have e1':(r.toList != [0])=false:=by rw [bne,e1];rfl
     clear h1 hq HQ;go_wp2;go_ret2;rw [hL];exact⟨_,rfl,hown,hbel⟩
    ·have e1:=Nm.tl_not_one hp h1;have e1':(r.toList != [0])=true:=by rw [bne,e1];rfl
     by_cases h2:r[0].toNat=0
     ·rw [Nm.at_zero hat hp h2 (fun h=>h1 ⟨h,h2⟩)] at hq;simp at hq
     ·by_cases h3:63<r[0].toNat∨r.size<r[0].toNat+1
      ·rw [Nm.at_bad hat hp h2 h3] at hq;simp at hq
      ·have e4:(r[0].toNat:Int)<=63:=by omega
       have e5:(r[0].toNat:Int)+1<=(r.size:Int):=by omega
       have e5':1+r[0].toNat<=r.size:=by omega
       have hi0:(0:Int)<(r.size:Int):=by omega
       have HN:Hid (Nm.At s (ls++[r.extract 1 (r[0].toNat+1)]) (r.extract (r[0].toNat+1) r.size)):=Nm.at_step hat hp h2 (by omega) (by omega);have hsz:=hbel.size;clear h2 h1 h0 h3 hq HQ;go_wp2_with (at_builtin;refine wpList_append_own _ rfl (.tmp 16) (.tmp 21) 85 rfl w.heap.size 9 i0 (.string ByteArray.empty) 1 16 Tryz.underlying85 hi hz0 hz1 hz2 rfl (by decide) _ _ _ rfl (hown.alloc _) ⟨wr.heap.size,0,none⟩ 1 1 [.string (r.extract 1 (1+r[0].toNat))] rfl rfl (cell_new1 _ _ _) (Nm.one_cell _ rfl) (by unfold maxLen;omega) (by omega) (by simp;omega) ?_)
       intro v' w1 hown' hgrow _;have R:=own_step hsz hown hbel _ hown' hgrow;clear hown' hgrow hown hbel;go_wp2;go_roundw
       case rel=>exact⟨_,_,rfl,by simpa [Nat.add_comm] using HN.out,by simp;omega,R.1,R.2⟩
       case measure=>simp;omega
end Go.Proofs.YtfmolgdfjklmpaaGreat
namespace Go.Proofs.YtfmolgdfjklmpaaGreat
open Go.RowKit
set_option linter.unusedVariables false
theorem ZOwn.zrow{w:World}{B:Nat}{v:Value}{ps:List Zp}(h:ZOwn w B v ps):ZRow w v ps:=
 ⟨CRow.of_owns h.outer,fun p hp=>by obtain⟨i,hi⟩:=List.getElem?_of_mem hp;exact Nm.SRow.of_owns (h.inner i p hi)⟩
end Go.Proofs.YtfmolgdfjklmpaaGreat
namespace Go.Proofs.YtfmolgdfjklmpaaGreat
open Go.RowKit
set_option maxRecDepth 100000 in
set_option maxHeartbeats 800000 in
theorem specAncestor_any(s:ByteArray)(n:Int)(w:World)(hs:s.size<=maxLen):
 Calls Tryz.prog 48 #[.string s,.int .i64 n] w fun e w'=>e=.returned (.tuple #[.string (ancS s n).1,.int .i64 (ancS s n).2])∧Below w.heap.size w w':=by
 have hsp:=l01Split_any s w hs
 cases hq:Nm.split s with
 |none=>
  have HA:Hid (ancS s n=(ByteArray.empty,32)):=by show _=_;simp [ancS,hq]
  rw [hq] at hsp;clear hq;go_enter Tryz.func48,Tryz.ntmps48;go_wp2_with fail
  refine hsp.mono ?_;rintro e w1 ⟨v,rfl,hown,hbel⟩;go_wp2;go_ret2;rw [HA.out]
  exact⟨rfl,hbel⟩
 |some ls=>
  have hz:=Nm.split_size hq;rw [hq] at hsp
  by_cases hr:0<=n∧n<=ls.length
  ·have HA:Hid (ancS s n=(⟨(Nm.joinL (ls.drop n.toNat)).toArray⟩,0)):=by show _=_;simp [ancS,hq,hr]
   clear hq;obtain⟨h0,h1⟩:=hr;obtain⟨k,rfl⟩:=Int.eq_ofNat_of_zero_le h0;go_enter Tryz.func48,Tryz.ntmps48;go_wp2_with fail
   refine hsp.mono ?_;rintro e w1 ⟨v,rfl,hown,hbel⟩;have hrow:=Nm.SRow.of_owns hown;obtain⟨a,cap,rfl,hcap,hmx,hnl,hc⟩:=hrow;simp only [Option.getD_some] at hown;have hd1:=fun e:cap=k=>(Nm.SRow.of_owns hown).drop_all e
   have hd2:=(Nm.SRow.of_owns hown).drop (k:=k) (by omega);have hwd:=Nm.wsum_drop_le ls k;have hkd:decide ((k:Int)<0)=false:=by simp
   clear hown hc
   by_cases hck:cap=k
   ·have hd:=hd1 hck;clear hd1 hd2;subst hck;go_wp2_with fail
    refine(l01Join_any _ (ls.drop cap) _ hd (by omega)).mono ?_;rintro e w2 ⟨rfl,hbel2⟩;go_wp2;go_ret2;rw [HA.out];exact⟨rfl,Nm.below_two hbel hbel2⟩
   ·clear hd1;go_wp2_with fail
    refine(l01Join_any _ (ls.drop k) _ hd2 (by omega)).mono ?_;rintro e w2 ⟨rfl,hbel2⟩;go_wp2;go_ret2;rw [HA.out];exact⟨rfl,Nm.below_two hbel hbel2⟩
  ·have HA:Hid (ancS s n=(ByteArray.empty,32)):=by show _=_;simp only [ancS,hq];rw [if_neg hr]
   clear hq;go_enter Tryz.func48,Tryz.ntmps48;go_wp2_with fail
   refine hsp.mono ?_;rintro e w1 ⟨v,rfl,hown,hbel⟩;obtain⟨a,cap,rfl,hcap,hmx,hnl,hc⟩:=Nm.SRow.of_owns hown;simp only [Option.getD_some] at hown hcap hc
   by_cases h0:n<0
   ·have hd:decide (n<0)=true:=by simp [h0]
    go_wp2;go_ret2;rw [HA.out];exact⟨rfl,hbel⟩
   ·have hd:decide (n<0)=false:=by simp;omega
    have hgt:(ls.length:Int)<n:=by omega
    go_wp2;go_ret2;rw [HA.out];exact⟨rfl,hbel⟩
end Go.Proofs.YtfmolgdfjklmpaaGreat
namespace Go.Proofs.YtfmolgdfjklmpaaGreat
open Go.RowKit
set_option linter.unusedVariables false
theorem wpList_clear_ran{P:Program}{ops:Array Oper}{rest:List Oper}{o:Oper}{a:Act}{w w':World}{Q:Exit->Act->World->Prop}(hgd:o.guard=none)(x:Operand)(t:TypeId)(ho:o.op=.call {callee:=.builtin .clear,args:=#[x],argTypes:=#[t]})(v:Value)(hx:a.eval x=v)
 (hr:(Builtin.clear_ #[t] o.type #[v]).run P w=.ok (.tuple #[]) w') (h:wpList P ops Q rest (a.put o.dst (.tuple #[])) w'):wpList P ops Q (o::rest) a w:=
 wpList_plain hgd fun _ hK=>by
  unfold Oper.wp;simp [execOp,ho,resolve,invoke,builtin,hx,hr,Result.andThen]
  exact hK _ _ h
theorem mk_len(l:List UInt8):(⟨l.toArray⟩:ByteArray).size=l.length:=by simp [ByteArray.size]
theorem join_len(ls:List ByteArray):(⟨(Nm.joinL ls).toArray⟩:ByteArray).size=Nm.wsum ls+1:=by rw [mk_len,Nm.joinL_length]
theorem srow_new(w:World)(ls:List ByteArray)(hl:ls.length<=maxLen):Nm.SRow (w.alloc (.cells (ls.map Value.string).toArray 9)) (.slice (some ⟨w.heap.size,0,none⟩) ls.length ls.length) ls:=by
 refine⟨_,_,rfl,Nat.le_refl _,hl,fun h=>absurd h (by simp),fun _=>⟨_,_,rfl,fun i x hx=>?_⟩⟩;have k:=blk_new w (ls.map Value.string).toArray 9;rw [Nat.zero_add,blk_cell k i];simp [hx]
def subS(ls:List ByteArray)(ab:ByteArray):ByteArray:=(⟨(Nm.joinL ls).toArray⟩:ByteArray).extract 0 (Nm.wsum ls)++ab
theorem sub_len(ls:List ByteArray)(ab:ByteArray):(subS ls ab).size=Nm.wsum ls+ab.size:=by
 rw [subS,ByteArray.size_append,ByteArray.size_extract,join_len];omega
set_option maxRecDepth 100000 in
set_option maxHeartbeats 1600000 in
theorem l05SubS_any(v:Value)(ls:List ByteArray)(ab:ByteArray)(w:World)(h:Nm.SRow w v ls)(hl:Nm.wsum ls<=100000)(ha:ab.size<=1000000):
 Calls Tryz.prog 55 #[v,.string ab] w fun e w'=>e=.returned (.string (subS ls ab))∧Below w.heap.size w w':=by
 have hj:=fun W (hW:Below w.heap.size w W)=>l01Join_any v ls W (h.below hW) (by omega)
 have hs:=join_len ls
 have HE:Hid (∀ J:ByteArray,(⟨(Nm.joinL ls).toArray⟩:ByteArray)=J->subS ls ab=J.extract 0 (Nm.wsum ls)++ab):=by
  rintro J rfl;rfl
 obtain⟨J,hJ⟩:∃ J:ByteArray,(⟨(Nm.joinL ls).toArray⟩:ByteArray)=J:=⟨_,rfl⟩;have HE2:=Nm.hide (HE.out J hJ);rw [HE2.out];simp only [hJ] at hj hs;have h1:(1:Int)<=(J.size:Int):=by omega
 have h2:J.size<=100001:=by omega
 have h3:(J.size:Int)-1<=(J.size:Int):=by omega
 obtain⟨X,hX⟩:∃ X,X=Nm.wsum ls:=⟨_,rfl⟩;rw [<- hX];have HS:Hid (J.size-1=X):=by show _=_;omega
 obtain⟨va,vn,vc,rfl⟩:∃ a n c,v=.slice a n c:=by obtain⟨a,c,e,_⟩:=h;exact⟨a,_,c,e⟩
 clear h hs HE HE2 hJ hX;go_enter Tryz.func55,Tryz.ntmps55;go_wp2_with fail
 refine(hj _ (Below.refl _ _)).mono ?_;rintro e w1 ⟨rfl,b1⟩;go_wp2_with fail
 refine(hj _ b1).mono ?_;rintro e w2 ⟨rfl,b2⟩;have bw:=Nm.below_two b1 b2;clear b1 b2 hj;go_wp2;go_ret;refine⟨?_,bw⟩;rw [<- HS.out];rfl
theorem l05Sub_any(v:Value)(ls:List ByteArray)(ab:ByteArray)(w:World)(h:Nm.SRow w v ls)(hl:Nm.wsum ls<=100000)(ha:ab.size<=1000000):
 Calls Tryz.prog 55 #[v,.string ab] w fun e w'=>∃ s:ByteArray,e=.returned (.string s)∧s.size=Nm.wsum ls+ab.size∧Below w.heap.size w w':=
 (l05SubS_any v ls ab w h hl ha).mono fun e w' ⟨h1,h2⟩=>⟨_,h1,sub_len ls ab,h2⟩
theorem srow1(w:World)(x:ByteArray):Nm.SRow (w.alloc (.cells #[.string x] 9)) (.slice (some ⟨w.heap.size,0,none⟩) 1 1) [x]:=srow_new w [x] (show 1<=maxLen by decide)
theorem srow2(w:World)(x y:ByteArray):Nm.SRow (w.alloc (.cells #[.string x,.string y] 9)) (.slice (some ⟨w.heap.size,0,none⟩) 2 2) [x,y]:=srow_new w [x,y] (show 2<=maxLen by decide)
theorem srow3(w:World)(x y z:ByteArray):Nm.SRow (w.alloc (.cells #[.string x,.string y,.string z] 9)) (.slice (some ⟨w.heap.size,0,none⟩) 3 3) [x,y,z]:=srow_new w [x,y,z] (show 3<=maxLen by decide)
theorem src_new{w:World}{g n cap:Nat}{a:Option Addr}(h:Src w g a n cap)(o:Obj):Src (w.alloc o) g a n cap:=src_below h ((Below.refl _ _).alloc (Nat.le_refl _) _)
theorem run_app_keep{P:Program}(w:World)(base:Nat)(t ty e:TypeId)(i:TypeInfo)(z:Value)(size bytes:Nat)(ht:P.underlying t=some (.slice e))(hi:P.info? e=some i)(hz:i.zero=some z)
 (hsize:i.size=size) (hby:i.bytes=bytes) (hzs:z.cells.size=size) (hsz:0<size)
 (v:Value) (n:Nat) (xs:List Value) (hn0:0<n) (hown:w.ownsRow base e size v n xs)
 (a:Addr) (m c:Nat) (news:List Value) (hl:news.length=m*size) (hnews:∀ j u,news[j]? =some u->w.cell? (a.add j)=some u) (h1:∀ u∈news,u.oneCell'=true)
 (h63:n+m<=maxLen) (hbytes:(n+m)*bytes<=140737488355328) (hbase:base<=w.heap.size):
 ∃ v' w',(Builtin.append_ #[t,t] ty #[v,.slice (some a) m c]).run P w=.ok v' w'∧w'.ownsRow base e size v' (n+m) (xs++news)∧w'.ownsRow base e size v n xs∧w.grownBy w' v.ownBlock:=by
 subst hsize;subst hby;have hlen:(xs++news).length=(n+m)*i.size:=by rw [List.length_append,hown.1,hl,Nat.add_mul]
 rcases hown.2 with⟨rfl,rfl⟩|⟨g,cap,cur,rfl,hbg,hg,hnc,hcm,hcs,htake⟩
 ·omega
 ·by_cases hroom:n+m<=cap
  ·have hfit:n*i.size+news.length<=cur.size:=by rw [hl,hcs,<- Nat.add_mul];exact Nat.mul_le_mul_right _ hroom
   have hr:=run_append_room (P:=P) w t ty e i ht hi g n cap cur hg a m c news hl hnews h1 hroom hfit
   have hsz2:(cur.toList.take (n*i.size)++news++cur.toList.drop (n*i.size+news.length)).toArray.size=cap*i.size:=by
    simp only [List.size_toArray,List.length_append,List.length_take,List.length_drop,Array.length_toList];omega
   refine⟨_,_,hr,⟨hlen,.inr ⟨g,cap,_,rfl,hbg,setRow_heap w g cur _ e _ hg,hroom,hcm,hsz2,?_⟩⟩,⟨hown.1,.inr ⟨g,cap,_,rfl,hbg,setRow_heap w g cur _ e _ hg,hnc,hcm,hsz2,?_⟩⟩,⟨rfl,rfl,rfl,by simp,fun k _ hk=>setRow_other w g k _ (fun e=>hk (by simp [Value.ownBlock,e]))⟩⟩
   ·rw [htake,<- hlen];exact List.take_left
   ·show List.take (n*i.size) (cur.toList.take (n*i.size)++news++cur.toList.drop (n*i.size+news.length))=xs
    rw [htake,List.append_assoc,<- hown.1];exact List.take_left
  ·have holds:∀ j u,xs[j]? =some u->w.cell? ((⟨g,0,none⟩:Addr).add j)=some u:=hown.cells (g:=g) rfl;have hr:=run_append_grow (P:=P) w t ty e i z ht hi hz ⟨g,0,none⟩ n cap xs hown.1 holds a m c news hl hnews (by omega) (by simp only [maxLen] at h63;omega) (growslice_fits (by omega) hbytes);have hge:=grownCap_ge w (n+m) cap e;have hcm2:grownCap w (n+m) cap e<=maxLen:=grownCap_le_maxLen w (n+m) cap e h63;have hgb:w.grownBy (w.drew.alloc (.cells (xs.toArray++news.toArray++Builtin.zeroCells z.cells (grownCap w (n+m) cap e-(n+m))) e)) none:=⟨rfl,rfl,rfl,by simp,fun k hk _=>Below.heap_alloc w.drew _ k hk⟩;refine⟨_,_,hr,⟨hlen,.inr ⟨w.heap.size,_,_,rfl,hbase,heap_alloc_new w.drew _,hge,hcm2,?_,?_⟩⟩,hown.kept hgb (.inr (by simp [Value.ownBlock])),⟨rfl,rfl,rfl,by simp,fun k hk _=>Below.heap_alloc w.drew _ k hk⟩⟩
   ·simp only [Array.size_append,List.size_toArray,size_zeroCells,hzs,hown.1,hl,<- Nat.add_mul];congr 1;omega
   ·simp only [Array.toList_append,List.append_assoc];rw [<- List.append_assoc,<- hlen];exact List.take_left
def apNs:List ByteArray:=[⟨(Nm.joinL [⟨#[122]⟩,⟨#[101,120,97,109,112,108,101]⟩]).toArray⟩,⟨(Nm.joinL [⟨#[69,120,97,109,112,108,101]⟩]).toArray⟩,⟨#[0]⟩,⟨(Nm.joinL [⟨#[101,120,97,109,112,108,101]⟩]).toArray⟩]
theorem ap_size{s:ByteArray}(h:s∈apNs):1<=s.size∧s.size<=20:=by
 simp only [apNs,List.mem_cons,List.not_mem_nil,or_false] at h
 rcases h with rfl|rfl|rfl|rfl<;>decide
set_option maxRecDepth 100000 in
set_option maxHeartbeats 1600000 in
theorem l05Apex_any(g:Nat)(a:Option Addr)(n cap:Nat)(w:World)(h:Src w g a n cap):
 Calls Tryz.prog 96 #[.pointer (some ⟨g,0,none⟩)] w fun e w'=>∃ s:ByteArray,e=.returned (.string s)∧s∈apNs∧Src w' g a n cap∧w.grownBy w' (some g):=by
 go_enter Tryz.func96,Tryz.ntmps96;go_wp2_with fail
 refine(l01Next_any g a n cap 6 _ h (by decide)).mono ?_;rintro e w1 ⟨r,rfl,hr0,hr1,hsrc,hgr⟩;have hr2:=hr1 (by decide);clear hr1 h
 by_cases e0:r=0
 ·subst e0;have hj:=l01Join_any _ [⟨#[122]⟩,⟨#[101,120,97,109,112,108,101]⟩] _ (srow2 w1 ⟨#[122]⟩ ⟨#[101,120,97,109,112,108,101]⟩) (by decide);have hz:(⟨(Nm.joinL [⟨#[122]⟩,⟨#[101,120,97,109,112,108,101]⟩]).toArray⟩:ByteArray)∈apNs:=by simp [apNs]
  generalize (⟨(Nm.joinL [⟨#[122]⟩,⟨#[101,120,97,109,112,108,101]⟩]).toArray⟩:ByteArray)=J at*;have HZ:=Nm.hide hz;clear hz;go_wp2_with fail
  refine hj.mono ?_;rintro e w2 ⟨rfl,b2⟩;go_wp2;go_ret;exact⟨_,rfl,HZ.out,src_below (src_new hsrc _) b2,grown_below (grown_alloc hgr _) b2⟩
 ·have q0:(r==0)=false:=by rw [beq_eq_false_iff_ne];exact e0
  by_cases e1:r=1
  ·subst e1;have hj:=l01Join_any _ [⟨#[69,120,97,109,112,108,101]⟩] _ (srow1 w1 ⟨#[69,120,97,109,112,108,101]⟩) (by decide);have hz:(⟨(Nm.joinL [⟨#[69,120,97,109,112,108,101]⟩]).toArray⟩:ByteArray)∈apNs:=by simp [apNs]
   generalize (⟨(Nm.joinL [⟨#[69,120,97,109,112,108,101]⟩]).toArray⟩:ByteArray)=J at*;have HZ:=Nm.hide hz;clear hz e0;go_wp2_with fail
   refine hj.mono ?_;rintro e w2 ⟨rfl,b2⟩;go_wp2;go_ret;exact⟨_,rfl,HZ.out,src_below (src_new hsrc _) b2,grown_below (grown_alloc hgr _) b2⟩
  ·have q1:(r==1)=false:=by rw [beq_eq_false_iff_ne];exact e1
   by_cases e2:r=2
   ·subst e2;go_wp2;go_ret;exact⟨_,rfl,by simp [apNs],hsrc,hgr⟩
   ·have q2:(r==2)=false:=by rw [beq_eq_false_iff_ne];exact e2
    have hj:=l01Join_any _ [⟨#[101,120,97,109,112,108,101]⟩] _ (srow1 w1 ⟨#[101,120,97,109,112,108,101]⟩) (by decide);have hz:(⟨(Nm.joinL [⟨#[101,120,97,109,112,108,101]⟩]).toArray⟩:ByteArray)∈apNs:=by simp [apNs]
    generalize (⟨(Nm.joinL [⟨#[101,120,97,109,112,108,101]⟩]).toArray⟩:ByteArray)=J at*;have HZ:=Nm.hide hz;clear hz e0 e1 e2;go_wp2_with fail
    refine hj.mono ?_;rintro e w2 ⟨rfl,b2⟩;go_wp2;go_ret;exact⟨_,rfl,HZ.out,src_below (src_new hsrc _) b2,grown_below (grown_alloc hgr _) b2⟩
end Go.Proofs.YtfmolgdfjklmpaaGreat
namespace Go.Proofs.YtfmolgdfjklmpaaGreat
open Go.RowKit
theorem put2_step{W wr w1:World}{v v':Value}{B e n:Nat}{l:List Value}{x:Value}(hB:B<=wr.heap.size)
 (hown:wr.ownsRow B e 1 v n l) (hbel:Below B W wr) (o:Obj) (hgrow:(wr.alloc o).grownBy w1 v.ownBlock)
 (hown':w1.ownsRow B e 1 v' (n+1) (l++[x])):
 w1.ownsRow B e 1 v' (n+1) (l++[x])∧Below B W w1:=by
 refine⟨hown',?_⟩;refine(hbel.alloc hB o).grown hgrow (by simp;omega) ?_;intro k hk;exact(hown.lt k hk).1
end Go.Proofs.YtfmolgdfjklmpaaGreat
namespace Go.Proofs.YtfmolgdfjklmpaaGreat
open Go.RowKit
set_option linter.unusedVariables false
def szOf:Value->Nat
 |.string s=>s.size
 |_=>0
set_option maxRecDepth 100000 in
set_option maxHeartbeats 1600000 in
theorem l03Six_any(g:Nat)(a:Option Addr)(n cap:Nat)(w:World)(h:Src w g a n cap):
 Calls Tryz.prog 140 #[.pointer (some ⟨g,0,none⟩)] w fun e w'=>∃ s:ByteArray,e=.returned (.string s)∧s.size=16∧Src w' g a n cap∧w.grownBy w' (some g):=by
 have z2:(ByteArray.mk #[0,0]).size=2:=rfl;have z1:(ByteArray.mk #[0]).size=1:=rfl;go_enter Tryz.func140,Tryz.ntmps140;go_wp2
 go_loopw [3] (fun v wr=>∃ (k:Nat) (s:ByteArray),k<=8∧v=.string s∧Hid (s.size=2*k)∧Src wr g a n cap∧w.grownBy wr (some g))
  (fun v _=>16-szOf v)
 case atStart=>exact⟨0,⟨#[]⟩,by omega,rfl,rfl,h,World.grownBy.refl _ _⟩
 case round=>
  obtain⟨k,s,hk,rfl,HZ,hsrc,hgr⟩:=hrel;clear h
  by_cases hlt:k<8
  ·have hlt':(s.size:Int)<16:=by have:=HZ.out;omega
   go_wp2_with fail
   refine(l01Bytes_any g a n cap 2 _ hsrc (by decide) (by decide)).mono ?_;rintro e w2 ⟨t,rfl,ht,hs2,hg2⟩;have ht2:t.size=2:=by omega
   have ht1:(1:Int)<=(t.size:Int):=by omega
   go_wp2_with fail
   refine(l01Next_any g a n cap 2 _ hs2 (by decide)).mono ?_;rintro e w3 ⟨q,rfl,hq0,hq1,hs3,hg3⟩;clear hq1;have G3:=grown_step (grown_step hgr hg2) hg3;clear hg2 hg3 hgr hs2 hsrc
   by_cases hq:q=0
   ·subst hq;go_wp2_with fail
    refine(l01Next_any g a n cap 4 _ hs3 (by decide)).mono ?_;rintro e w4 ⟨p,rfl,hp0,hp1,hs4,hg4⟩;clear hp1;have G4:=grown_step G3 hg4;clear hs3 G3 hg4
    by_cases hp:p=0
    ·subst hp;go_wp2;go_roundw
     case rel=>exact⟨k+1,_,by omega,rfl,by show ByteArray.size _=_;rw [ByteArray.size_append,ByteArray.size_append,ByteArray.size_extract,z1,z2,HZ.out];omega,hs4,G4⟩
     case measure=>simp only [szOf];rw [ByteArray.size_append,ByteArray.size_append,ByteArray.size_extract,z1,z2,HZ.out];omega
    ·have hp':(p==0)=false:=by rw [beq_eq_false_iff_ne];exact hp
     go_wp2;go_roundw
     case rel=>exact⟨k+1,_,by omega,rfl,by show ByteArray.size _=_;rw [ByteArray.size_append,z2,HZ.out];omega,hs4,G4⟩
     case measure=>simp only [szOf];rw [ByteArray.size_append,z2,HZ.out];omega
   ·have hq':(q==0)=false:=by rw [beq_eq_false_iff_ne];exact hq
    have HT:=Nm.hide ht2;clear ht2;go_wp2_with fail
    refine(l01Next_any g a n cap 4 _ hs3 (by decide)).mono ?_;rintro e w4 ⟨p,rfl,hp0,hp1,hs4,hg4⟩;clear hp1;have G4:=grown_step G3 hg4;clear hs3 G3 hg4
    by_cases hp:p=0
    ·subst hp;go_wp2;go_roundw
     case rel=>exact⟨k+1,_,by omega,rfl,by show ByteArray.size _=_;rw [ByteArray.size_append,ByteArray.size_append,ByteArray.size_extract,z1,HT.out,HZ.out];omega,hs4,G4⟩
     case measure=>simp only [szOf];rw [ByteArray.size_append,ByteArray.size_append,ByteArray.size_extract,z1,HT.out,HZ.out];omega
    ·have hp':(p==0)=false:=by rw [beq_eq_false_iff_ne];exact hp
     go_wp2;go_roundw
     case rel=>exact⟨k+1,_,by omega,rfl,by show ByteArray.size _=_;rw [ByteArray.size_append,HT.out,HZ.out];omega,hs4,G4⟩
     case measure=>simp only [szOf];rw [ByteArray.size_append,HT.out,HZ.out];omega
  ·have hke:k=8:=by omega
   subst hke;have hlt':(16:Int)<=(s.size:Int):=by have:=HZ.out;omega
   go_wp2;go_ret;exact⟨s,rfl,by have:=HZ.out;omega,hsrc,hgr⟩
end Go.Proofs.YtfmolgdfjklmpaaGreat
