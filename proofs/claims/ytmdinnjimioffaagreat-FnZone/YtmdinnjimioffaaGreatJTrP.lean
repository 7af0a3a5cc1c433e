import Derived.Test.YtmdinnjimioffaaGreatJTrG
import Derived.Test.YtmdinnjimioffaaGreatJCmp2
import Derived.Deep.QuietTactic
import Derived.BigQuiet
import Derived.Test.YtmdinnjimioffaaGreatJSameM
import Derived.Test.YtmdinnjimioffaaGreatJTbPI
import Derived.Test.YtmdinnjimioffaaGreatJCmp
import Derived.Test.YtmdinnjimioffaaGreatJOrdL
import Derived.Deep.RegionLaw
import Derived.RegionTactic
import Derived.BigRegion
import Derived.Deep.WholeRow
import Derived.Deep.CutRange
import Derived.Lib.SliceRun
import Derived.Test.YtmdinnjimioffaaGreatJData2
import Derived.Test.YtmdinnjimioffaaGreatJCmpM
import Derived.Laws.IdiomCopy
import Derived.Laws.CopyOwn
import Derived.Laws.OwnMore
import Derived.Deep.AppendSrc
import Derived.Lib.AppendZerosOnto
import Derived.Laws.AppendOwn
import Derived.Tactics
namespace Go.Proofs.YtmdinnjimioffaaGreat
open Go.RowKit
set_option linter.unusedVariables false
set_option maxRecDepth 100000 in
set_option maxHeartbeats 1600000 in
theorem place1S_any(tb g:Nat)(rv:Value)(k d t:ByteArray)(w:World)(kb:Blk w tb #[.pointer (some ⟨g,0,none⟩)] 132)(kg:Blk w g #[cmpSv,rv] 192):
 Calls Tryz.prog 159 #[.agg #[.string k,.string d],.string t,.pointer (some ⟨tb,0,none⟩)] w fun e w'=>e=.returned (.int .i64 (Nm.ordL k.data.toList t.data.toList))∧Below w.heap.size w w':=by
 have hB:=(Below.refl w.heap.size w).alloc (Nat.le_refl _) (.cells #[.string k,.string d] 195);have rb:=fun i=>blk_cell (blk_below kb hB) i
 have rg:=fun i=>blk_cell (blk_below kg hB) i
 have hc:=fun W=>compare_any' k t W
 unfold cmpSv at rg;generalize Nm.ordL k.data.toList t.data.toList=C at*;go_enter Tryz.func159,Tryz.ntmps159;go_wp2;go_quiet ((go_at_call 121;exact Calls.quiet_of_same (hc _)))
 go_wp2;go_ret;exact⟨rfl,Go.below_drewN hB _⟩
set_option maxRecDepth 100000 in
set_option maxHeartbeats 1600000 in
theorem place1I_any(tb g:Nat)(rv pv:Value)(k t:Int)(w:World)(kb:Blk w tb #[.pointer (some ⟨g,0,none⟩)] 106)(kg:Blk w g #[cmpIv,rv] 152):
 Calls Tryz.prog 145 #[.agg #[.int .i64 k,pv],.int .i64 t,.pointer (some ⟨tb,0,none⟩)] w fun e w'=>e=.returned (.int .i64 (Nm.cmpI k t))∧Below w.heap.size w w':=by
 have hB:=(Below.refl w.heap.size w).alloc (Nat.le_refl _) (.cells #[.int .i64 k,pv] 154);have rb:=fun i=>blk_cell (blk_below kb hB) i
 have rg:=fun i=>blk_cell (blk_below kg hB) i
 have hc:=fun W=>cmp64_any k t W
 unfold cmpIv at rg;generalize Nm.cmpI k t=C at*;go_enter Tryz.func145,Tryz.ntmps145;go_wp2;go_quiet ((go_at_call 117;exact Calls.quiet_of_same (hc _)))
 go_wp2;go_ret;exact⟨rfl,Go.below_drewN hB _⟩
set_option maxRecDepth 100000 in
set_option maxHeartbeats 1600000 in
theorem place1L_any(tb g:Nat)(rv pv kv tv:Value)(ks ts:List ByteArray)(w:World)(kb:Blk w tb #[.pointer (some ⟨g,0,none⟩)] 68)(kg:Blk w g #[cmpLv,rv] 145)
 (hk:Nm.SRow w kv ks) (ht:Nm.SRow w tv ts) (hks:∀ x∈ks,x.size<=1000000000) (hkl:ks.length<=1000000000) (htl:ts.length<=1000000000):
 Calls Tryz.prog 152 #[.agg #[kv,pv],tv,.pointer (some ⟨tb,0,none⟩)] w fun e w'=>e=.returned (.int .i64 (Nm.cmpLs ks ts))∧Below w.heap.size w w':=by
 have hB:=(Below.refl w.heap.size w).alloc (Nat.le_refl _) (.cells #[kv,pv] 147);have rb:=fun i=>blk_cell (blk_below kb hB) i
 have rg:=fun i=>blk_cell (blk_below kg hB) i
 have hc:=fun m=>compare_any kv tv ks ts _ (hk.below (Go.below_drewN hB m)) (ht.below (Go.below_drewN hB m)) hks hkl htl
 unfold cmpLv at rg;obtain⟨ka,kc,rfl,_⟩:=hk;obtain⟨ta,tc,rfl,_⟩:=ht;generalize Nm.cmpLs ks ts=C at*;go_enter Tryz.func152,Tryz.ntmps152;go_wp2;go_quiet ((go_at_call 84;exact Calls.quiet_of (hc _)))
 go_wp2;go_ret;exact⟨rfl,Go.below_drewN hB _⟩
end Go.Proofs.YtmdinnjimioffaaGreat
namespace Go.Proofs.YtmdinnjimioffaaGreat
open Go.RowKit
theorem code_zero{t:Int}{d:ByteArray}:cutCode t d=0↔ ∃ sp,cutS t d=some sp:=by
 by_cases h:t<0∨65535<t
 ·obtain⟨h1,h2⟩:=code_type (d:=d) h;rw [h1,h2];simp
 ·by_cases h1:65535<d.size
  ·obtain⟨h2,h3⟩:=code_long h h1;rw [h2,h3];simp
  ·cases hq:Dt.spans (Dt.implP t) 0 d with
   |none=>obtain⟨h2,h3⟩:=code_none h h1 hq;rw [h2,h3];simp
   |some sp=>obtain⟨h2,h3⟩:=code_some h h1 hq;rw [h2,h3];simp
theorem good_parts{t:Int}{d:ByteArray}(h:cutCode t d=0):∃ ps,Dt.parts (Dt.specP t) d=some ps∧cutS t d=some (Dt.spansOf (Dt.specP t) ps 0)∧d.size<=65535:=by
 obtain⟨sp,hsp⟩:=code_zero.1 h
 by_cases ht:t<0∨65535<t
 ·rw [(code_type (d:=d) ht).2] at hsp;cases hsp
 ·by_cases h1:65535<d.size
  ·rw [(code_long ht h1).2] at hsp;cases hsp
  ·have e:cutS t d=Dt.spans (Dt.implP t) 0 d:=by rw [cutS,if_neg ht,if_neg h1]
   rw [e,<- Dt.forms_agree,Dt.spans_of_parts] at hsp
   cases hq:Dt.parts (Dt.specP t) d with
   |none=>rw [hq] at hsp;simp at hsp
   |some ps=>
    refine⟨ps,rfl,?_,by omega⟩;rw [e,<- Dt.forms_agree,Dt.spans_of_parts,hq];rfl
theorem part_le:∀ (ps:List ByteArray) (x:ByteArray),x∈ps->x.size<=(Dt.catL ps).length:=by
 intro ps
 induction ps with
 |nil=>intro x h;simp at h
 |cons y ps ih=>
  intro x h;have e:(Dt.catL (y::ps)).length=y.size+(Dt.catL ps).length:=by simp [Dt.catL]
  rcases List.mem_cons.1 h with rfl|h
  ·omega
  ·have:=ih x h;omega
theorem isN_let(c:UInt8):(Dt.letP c).isN=decide (c.toNat=110):=by
 by_cases h:c=110
 ·subst h;rfl
 ·have h':c.toNat≠110:=fun e=>h (UInt8.toNat_inj.1 (by simpa using e))
  simp only [h',decide_false];unfold Dt.letP;rw [if_neg h]
  repeat' split
  all_goals rfl
theorem spans_few:∀ (fs:List Dt.Pc) (a:Nat) (d:ByteArray) (sp:List (Nat×Nat)),Dt.spans fs a d=some sp->sp.length<=fs.length:=by
 intro fs
 induction fs with
 |nil=>
  intro a d sp h;rw [Dt.spans] at h
  split at h
  ·simp at h;subst h;simp
  ·simp at h
 |cons p r ih=>
  intro a d sp h;rw [Dt.spans] at h
  cases hq:Dt.sz p d with
  |none=>rw [hq] at h;simp at h
  |some n=>
   rw [hq] at h
   cases hr:Dt.spans r (a+n) (d.extract n d.size) with
   |none=>simp [hr] at h
   |some l=>
    have:=ih _ _ _ hr;simp [hr] at h
    subst h;cases p.isN<;>simp<;>omega
theorem cut_few(t:Int)(d:ByteArray):((cutS t d).getD []).length<=5:=by
 cases h:cutS t d with
 |none=>simp
 |some sp=>
  rw [cutS] at h
  split at h
  ·cases h
  ·split at h
   ·cases h
   ·have h1:=spans_few _ _ _ _ h;have h2:=implP_len t
    simp;omega
end Go.Proofs.YtmdinnjimioffaaGreat
namespace Go.Proofs.YtmdinnjimioffaaGreat
open Go.RowKit
set_option linter.unusedVariables false
set_option maxRecDepth 100000 in
set_option maxHeartbeats 1600000 in
theorem getI_in(g B:Nat)(cmpv rv key:Value)(rs:List (Value×Value))(cf:Nat->Int)(k:Nat)(p:Value×Value)(w:World)(hg:Blk w g #[cmpv,rv] 152)(h:w.ownsRow B 154 2 rv rs.length (rowCs rs))(hl:rs.length<=1000000)
 (hf:∀ (tb i:Nat) (p:Value×Value),rs[i]? =some p->∀ W,Below w.heap.size w W->Blk W tb #[.pointer (some ⟨g,0,none⟩)] 106->Calls Tryz.prog 145 #[.agg #[p.1,p.2],key,.pointer (some ⟨tb,0,none⟩)] W fun e w'=>e=.returned (.int .i64 (cf i))∧Below W.heap.size W w')
 (hm:∀ a b,a<=b->b<rs.length->cf b<0->cf a<0) (hk:Fnd rs.length cf k) (hp:rs[k]? =some p) (h0:cf k=0):
 Calls Tryz.prog 101 #[.pointer (some ⟨g,0,none⟩),key] w fun e w'=>e=.returned (.tuple #[p.2,.bool true])∧Below w.heap.size w w':=by
 have hpl:=placeI_any g cmpv rv key rs cf w hg (CRow.of_owns h) hl hf hm;have hkl:=(List.getElem?_eq_some_iff.1 hp).1;have at1:=rowCs_at rs k 1 p hp (by decide);obtain⟨_,a,cap,rfl,hcap,hmx,hc⟩:=CRow.of_owns h;obtain⟨b,off,rfl,hcell⟩:=hc (by omega);have c1:=hcell _ _ at1;have HK:=Nm.hide hk;have H0:=Nm.hide (And.intro hkl h0);unfold maxLen at hmx;have n1:(0:Int)<=(k:Int):=by omega
 have n2:(k:Int)<(rs.length:Int):=by omega
 clear hf hm hk hp h0 h hcell hc at1;go_enter Tryz.func101,Tryz.ntmps101;go_wp2_with fail
 refine hpl.mono ?_;rintro e w1 ⟨k',hk',rfl,b1⟩;obtain rfl:=Fnd.unique HK.out hk';rw [decide_eq_true H0.out.1,decide_eq_true H0.out.2];have kg:=blk_below hg b1;have rg:=fun i=>blk_cell kg i
 have d1:w1.cell? ⟨b,off+k*2+1,none⟩=some p.2:=(b1.cell (World.block_lt_of_cell? w _ c1)).trans c1;have tt:(true&&true)=true:=rfl;clear hpl hk' c1 H0;go_wp2;go_ret2;exact⟨rfl,b1⟩
set_option maxRecDepth 100000 in
set_option maxHeartbeats 1600000 in
theorem getI_out(g B:Nat)(cmpv rv key:Value)(rs:List (Value×Value))(cf:Nat->Int)(k:Nat)(w:World)(hg:Blk w g #[cmpv,rv] 152)(h:w.ownsRow B 154 2 rv rs.length (rowCs rs))(hl:rs.length<=1000000)
 (hf:∀ (tb i:Nat) (p:Value×Value),rs[i]? =some p->∀ W,Below w.heap.size w W->Blk W tb #[.pointer (some ⟨g,0,none⟩)] 106->Calls Tryz.prog 145 #[.agg #[p.1,p.2],key,.pointer (some ⟨tb,0,none⟩)] W fun e w'=>e=.returned (.int .i64 (cf i))∧Below W.heap.size W w')
 (hm:∀ a b,a<=b->b<rs.length->cf b<0->cf a<0) (hk:Fnd rs.length cf k) (h0:¬(k<rs.length∧cf k=0)):
 Calls Tryz.prog 101 #[.pointer (some ⟨g,0,none⟩),key] w fun e w'=>e=.returned (.tuple #[.pointer none,.bool false])∧Below w.heap.size w w':=by
 have hpl:=placeI_any g cmpv rv key rs cf w hg (CRow.of_owns h) hl hf hm;have HK:=Nm.hide hk
 have H0:Hid ((decide (k<rs.length)&&decide (cf k=0))=false):=by
  show _=_
  rw [Bool.and_eq_false_iff]
  by_cases hx:k<rs.length
  ·exact .inr (decide_eq_false (fun h=>h0 ⟨hx,h⟩))
  ·exact .inl (decide_eq_false hx)
 clear hf hm hk h0 h;go_enter Tryz.func101,Tryz.ntmps101;go_wp2_with fail
 refine hpl.mono ?_;rintro e w1 ⟨k',hk',rfl,b1⟩;obtain rfl:=Fnd.unique HK.out hk';rw [H0.out];clear hpl hk' H0;go_wp2;go_ret2;exact⟨rfl,b1⟩
set_option maxRecDepth 100000 in
set_option maxHeartbeats 1600000 in
theorem getL_in(g B:Nat)(cmpv rv key:Value)(rs:List (Value×Value))(cf:Nat->Int)(k:Nat)(p:Value×Value)(w:World)(hg:Blk w g #[cmpv,rv] 145)(h:w.ownsRow B 147 2 rv rs.length (rowCs rs))(hl:rs.length<=1000000)
 (hf:∀ (tb i:Nat) (p:Value×Value),rs[i]? =some p->∀ W,Below w.heap.size w W->Blk W tb #[.pointer (some ⟨g,0,none⟩)] 68->Calls Tryz.prog 152 #[.agg #[p.1,p.2],key,.pointer (some ⟨tb,0,none⟩)] W fun e w'=>e=.returned (.int .i64 (cf i))∧Below W.heap.size W w')
 (hm:∀ a b,a<=b->b<rs.length->cf b<0->cf a<0) (hk:Fnd rs.length cf k) (hp:rs[k]? =some p) (h0:cf k=0):
 Calls Tryz.prog 125 #[.pointer (some ⟨g,0,none⟩),key] w fun e w'=>e=.returned (.tuple #[p.2,.bool true])∧Below w.heap.size w w':=by
 have hpl:=placeL_any g cmpv rv key rs cf w hg (CRow.of_owns h) hl hf hm;have hkl:=(List.getElem?_eq_some_iff.1 hp).1;have at1:=rowCs_at rs k 1 p hp (by decide);obtain⟨_,a,cap,rfl,hcap,hmx,hc⟩:=CRow.of_owns h;obtain⟨b,off,rfl,hcell⟩:=hc (by omega);have c1:=hcell _ _ at1;have HK:=Nm.hide hk;have H0:=Nm.hide (And.intro hkl h0);unfold maxLen at hmx;have n1:(0:Int)<=(k:Int):=by omega
 have n2:(k:Int)<(rs.length:Int):=by omega
 clear hf hm hk hp h0 h hcell hc at1;go_enter Tryz.func125,Tryz.ntmps125;go_wp2_with fail
 refine hpl.mono ?_;rintro e w1 ⟨k',hk',rfl,b1⟩;obtain rfl:=Fnd.unique HK.out hk';rw [decide_eq_true H0.out.1,decide_eq_true H0.out.2];have kg:=blk_below hg b1;have rg:=fun i=>blk_cell kg i
 have d1:w1.cell? ⟨b,off+k*2+1,none⟩=some p.2:=(b1.cell (World.block_lt_of_cell? w _ c1)).trans c1;have tt:(true&&true)=true:=rfl;clear hpl hk' c1 H0;go_wp2;go_ret2;exact⟨rfl,b1⟩
set_option maxRecDepth 100000 in
set_option maxHeartbeats 1600000 in
theorem getL_out(g B:Nat)(cmpv rv key:Value)(rs:List (Value×Value))(cf:Nat->Int)(k:Nat)(w:World)(hg:Blk w g #[cmpv,rv] 145)(h:w.ownsRow B 147 2 rv rs.length (rowCs rs))(hl:rs.length<=1000000)
 (hf:∀ (tb i:Nat) (p:Value×Value),rs[i]? =some p->∀ W,Below w.heap.size w W->Blk W tb #[.pointer (some ⟨g,0,none⟩)] 68->Calls Tryz.prog 152 #[.agg #[p.1,p.2],key,.pointer (some ⟨tb,0,none⟩)] W fun e w'=>e=.returned (.int .i64 (cf i))∧Below W.heap.size W w')
 (hm:∀ a b,a<=b->b<rs.length->cf b<0->cf a<0) (hk:Fnd rs.length cf k) (h0:¬(k<rs.length∧cf k=0)):
 Calls Tryz.prog 125 #[.pointer (some ⟨g,0,none⟩),key] w fun e w'=>e=.returned (.tuple #[.pointer none,.bool false])∧Below w.heap.size w w':=by
 have hpl:=placeL_any g cmpv rv key rs cf w hg (CRow.of_owns h) hl hf hm;have HK:=Nm.hide hk
 have H0:Hid ((decide (k<rs.length)&&decide (cf k=0))=false):=by
  show _=_
  rw [Bool.and_eq_false_iff]
  by_cases hx:k<rs.length
  ·exact .inr (decide_eq_false (fun h=>h0 ⟨hx,h⟩))
  ·exact .inl (decide_eq_false hx)
 clear hf hm hk h0 h;go_enter Tryz.func125,Tryz.ntmps125;go_wp2_with fail
 refine hpl.mono ?_;rintro e w1 ⟨k',hk',rfl,b1⟩;obtain rfl:=Fnd.unique HK.out hk';rw [H0.out];clear hpl hk' H0;go_wp2;go_ret2;exact⟨rfl,b1⟩
end Go.Proofs.YtmdinnjimioffaaGreat
namespace Go.Proofs.YtmdinnjimioffaaGreat
open Go.RowKit
theorem nok_true{s:ByteArray}(h:(Nm.split s).isSome=true):Dt.sz .nm s=some s.size:=by
 obtain⟨h1,h2⟩:=(Dt.name_iff s).1 h;rw [Dt.sz,if_neg h1,h2]
theorem nok_false{s:ByteArray}(h:(Nm.split s).isSome=false):Dt.sz .nm s=none∨∃ n,Dt.sz .nm s=some n∧n≠s.size:=by
 by_cases h0:(Dt.nameAtS s).size=0
 ·left;rw [Dt.sz,if_pos h0]
 ·right;refine⟨_,by rw [Dt.sz,if_neg h0],?_⟩;intro e;rw [(Dt.name_iff s).2 ⟨h0,e⟩] at h;simp at h
set_option maxRecDepth 100000 in
set_option maxHeartbeats 400000 in
theorem implNameOK_same(s:ByteArray)(w:World):
 Calls Tryz.prog 107 #[.string s] w fun e w'=>e=.returned (.bool (Nm.split s).isSome)∧w'=w:=by
 have hcall:=nameSize_any s
 cases hq:(Nm.split s).isSome with
 |true=>
  rw [nok_true hq] at hcall;simp only [szV,Option.getD_some,Option.isSome_some] at hcall;clear hq;go_enter Tryz.func107,Tryz.ntmps107;go_wp2_with (go_at_call 131;refine(hcall _).mono ?_;rintro e w1 ⟨rfl,rfl⟩)
  go_ret
  exact⟨rfl,rfl⟩
 |false=>
  rcases nok_false hq with h|⟨n,h,hn⟩
  ·rw [h] at hcall;simp only [szV,Option.getD_none,Option.isSome_none] at hcall;clear hq h;go_enter Tryz.func107,Tryz.ntmps107;go_wp2_with (go_at_call 131;refine(hcall _).mono ?_;rintro e w1 ⟨rfl,rfl⟩)
   go_ret;exact⟨rfl,rfl⟩
  ·rw [h] at hcall;simp only [szV,Option.getD_some,Option.isSome_some] at hcall;have hb:((n:Int)==(s.size:Int))=false:=by rw [beq_eq_false_iff_ne];omega
   have hb2:(n==s.size)=false:=by rw [beq_eq_false_iff_ne];omega
   clear hq h;go_enter Tryz.func107,Tryz.ntmps107;go_wp2_with (go_at_call 131;refine(hcall _).mono ?_;rintro e w1 ⟨rfl,rfl⟩)
   go_ret;exact⟨rfl,rfl⟩
end Go.Proofs.YtmdinnjimioffaaGreat
namespace Go.Proofs.YtmdinnjimioffaaGreat
open Go.RowKit Go.Shelf
set_option linter.unusedVariables false
attribute [local go_sem] Oper.semAt_some
def RwsI{α:Type}(kf:α->Int)(vf:α->Addr)(n₀:Nat)(W:World)(sv:Value)(zs:List α):Prop:=
 (sv=.slice none 0 0∧zs=[])∨∃ b off cap,sv=.slice (some ⟨b,off,none⟩) zs.length cap∧b<n₀∧(zs.length<=cap∧cap<=maxLen)∧
  ∀ (i:Nat) (x:α),zs[i]? =some x->W.cell? ⟨b,off+i*2,none⟩=some (Value.int .i64 (kf x))∧W.cell? ⟨b,off+i*2+1,none⟩=some (Value.pointer (some (vf x)))
theorem RwsI.below{α:Type}{kf:α->Int}{vf:α->Addr}{n₀:Nat}{W W':World}{sv:Value}{zs:List α}(h:RwsI kf vf n₀ W sv zs)(hB:Below n₀ W W'):RwsI kf vf n₀ W' sv zs:=by
 rcases h with h|⟨b,off,cap,e,hb,hcp,hc⟩
 ·exact .inl h
 ·exact .inr ⟨b,off,cap,e,hb,hcp,fun i x hx=>⟨(hB.cell (p:=⟨b,off+i*2,none⟩) hb).trans (hc i x hx).1,(hB.cell (p:=⟨b,off+i*2+1,none⟩) hb).trans (hc i x hx).2⟩⟩
theorem rwsI_own{α:Type}(kf:α->Int)(vf:α->Addr){w:World}{B e:Nat}{v:Value}(zs:List α)(h:w.ownsRow B e 2 v zs.length (rowCs (zs.map fun x=>((Value.int .i64 (kf x)),(Value.pointer (some (vf x))))))):RwsI kf vf w.heap.size w v zs:=by
 have h':=h
 rcases h.2 with⟨rfl,h0⟩|⟨q,cap,cur,rfl,hb,hh,hc1,hc2,hcs,ht⟩
 ·exact .inl ⟨rfl,List.length_eq_zero_iff.1 h0⟩
 ·refine .inr ⟨q,0,cap,rfl,(Array.getElem?_eq_some_iff.1 hh).1,⟨hc1,hc2⟩,fun i x hx=>?_⟩;have hi:=(List.getElem?_eq_some_iff.1 hx).1;have hm:(zs.map fun x=>((Value.int .i64 (kf x)),(Value.pointer (some (vf x)))))[i]? =some ((Value.int .i64 (kf x)),(Value.pointer (some (vf x)))):=by simp [hx]
  have a0:=rowCs_at _ i 0 _ hm (by decide);have a1:=rowCs_at _ i 1 _ hm (by decide);have c0:=h'.cellAt (i*2) (by omega);have c1:=h'.cellAt (i*2+1) (by omega);exact⟨by rw [Nat.zero_add,c0];exact a0,by rw [Nat.zero_add,c1];exact a1⟩
set_option maxRecDepth 100000 in
set_option maxHeartbeats 2000000 in
theorem all1nI_in{α:Type}(F:Fence)(n:Nat)(h7:F.fn 100)(hro:F.round=none)(l tb g:Nat)(J:List α->World->Prop)(W:World)
 (kb:W.cell? ⟨tb,0,none⟩=some (.pointer (some ⟨g,0,none⟩))) (kg:W.cell? ⟨g,1,none⟩=some (.slice none 0 0)) (h0:J [] W):
 CallsIn F n Tryz.prog 100 #[.func (.yield l) #[] #[],.pointer (some ⟨tb,0,none⟩)] W fun e W'=>(∃ v,e=.returned v)∧J [] W':=by
 refine callsIn_of_wp Tryz.func100 rfl h7 ?_ hro;simp only [Tryz.ntmps100,List.size_toArray,List.length_cons,List.length_nil,Nat.reduceAdd,Nat.reduceSub,Array.replicate_succ,Array.replicate_zero,List.push_toArray,List.append_toArray,List.nil_append,List.cons_append]
 gi_wp2
 gi_loopw [10] (fun i wr=>i=.int .i64 0∧J [] wr) (fun _ _=>0)
 case atStart=>exact⟨rfl,h0⟩
 case round=>
  obtain⟨rfl,hJs⟩:=hrel
  gi_wp2
  go_end0
  exact⟨⟨_,rfl⟩,hJs⟩
set_option maxRecDepth 100000 in
set_option maxHeartbeats 2000000 in
theorem allI_in(F:Fence)(n:Nat)(h6:F.fn 66)(hro:F.round=none)(p:Option Addr)(w:World):
 CallsIn F n Tryz.prog 66 #[.pointer p] w fun e w'=>e=.returned (.func (.func 100) #[] #[.pointer (some ⟨w.heap.size,0,none⟩)])∧w'=w.alloc (.cells #[.pointer p] 106):=by
 refine callsIn_of_wp Tryz.func66 rfl h6 ?_ hro;simp only [Tryz.ntmps66,List.size_toArray,List.length_cons,List.length_nil,Nat.reduceAdd,Nat.reduceSub,Array.replicate_succ,Array.replicate_zero,List.push_toArray,List.append_toArray,List.nil_append,List.cons_append]
 gi_wp2
 go_ret;exact⟨rfl,rfl⟩
theorem allStopsI{α:Type}(kf:α->Int)(vf:α->Addr)(F:Fence)(n:Nat)(h7:F.fn 100)(hro:F.round=none)(hn:1<=n)(tb g n₀:Nat)(sv:Value)(zs:List α)(hl:zs.length<=1000000)(w:World)(htb:tb<w.heap.size)(hg:g<n₀)(hn₀:n₀<=w.heap.size)
 (kb:w.cell? ⟨tb,0,none⟩=some (.pointer (some ⟨g,0,none⟩))) (kg:w.cell? ⟨g,1,none⟩=some sv) (hR:RwsI kf vf n₀ w sv zs):
 SeqStopsK F n Tryz.prog 100 #[.pointer (some ⟨tb,0,none⟩)] (fun x:α=>#[(Value.int .i64 (kf x)),(Value.pointer (some (vf x)))]) (Below n₀) (fun ys=>ys=zs) (fun pre=>pre<+:zs) zs.length w:=fun l J Jx W hW hJ _ hY h0=>by
 have kb':=(hW.cell (p:=⟨tb,0,none⟩) htb).trans kb;have kg':=(hW.cell (p:=⟨g,1,none⟩) (Nat.lt_of_lt_of_le hg hn₀)).trans kg
 rcases hR.below (hW.mono hn₀) with⟨rfl,rfl⟩|⟨b,off,cap,rfl,hb,hcp,hcs⟩
 ·exact(all1nI_in F n h7 hro l tb g J W kb' kg' h0).mono fun e W' ⟨he,hj⟩=>⟨he,.inl ⟨_,rfl,hj⟩⟩
 ·exact all1I_in kf vf F n h7 hro hn l tb g n₀ b off cap (.pointer none) zs hl hcp hb J Jx (fun s W1 W2 hs hgr=>hJ s W1 W2 none hs hgr (fun r e=>by cases e)) hY W kb' kg' hcs (Nat.le_trans hn₀ hW.size) h0
end Go.Proofs.YtmdinnjimioffaaGreat
namespace Go.Proofs.YtmdinnjimioffaaGreat
open Go.RowKit
set_option linter.unusedVariables false
theorem own_besideZ{W W1:World}{B e s m:Nat}{v:Value}{b:Option Nat}{xs:List Value}(h:W.ownsRow B e s v m xs)(hg:W.grownBy W1 b)(ha:∀ g,b=some g->v.ownBlock≠some g):W1.ownsRow B e s v m xs:=by
 refine h.kept hg ?_
 cases b with
 |none=>
  cases hv:v.ownBlock with
  |none=>exact .inl rfl
  |some k=>right;simp
 |some k=>right;exact ha k rfl
theorem own_kindsZ{W:World}{B e s m B' e' s' m':Nat}{v u:Value}{xs ys:List Value}(h:W.ownsRow B e s v m xs)(h':W.ownsRow B' e' s' u m' ys)(hne:e≠e'):∀ g,u.ownBlock=some g->v.ownBlock≠some g:=by
 intro g hu hv
 rcases h'.2 with⟨rfl,_⟩|⟨g',cap',cur',rfl,_,hh',_⟩
 ·cases hu
 ·rcases h.2 with⟨rfl,_⟩|⟨g2,cap2,cur2,rfl,_,hh,_⟩
  ·cases hv
  ·simp only [Value.ownBlock,Option.some.injEq] at hu hv;subst hu;subst hv;rw [hh] at hh';simp only [Option.some.injEq,Obj.cells.injEq] at hh';exact hne hh'.2.1
structure ZOwn (w:World) (B:Nat) (v:Value) (ps:List Zp):Prop where
 outer:w.ownsRow B 65 4 v ps.length (zpVs ps)
 inner:∀ (i:Nat) (p:Zp),ps[i]? =some p->w.ownsRow B 9 1 p.2 p.1.da.length (p.1.da.map Value.string)
 apart:∀ (i j:Nat) (p q:Zp),ps[i]? =some p->ps[j]? =some q->i≠j->∀ g,p.2.ownBlock=some g->q.2.ownBlock≠some g
theorem ZOwn.nil(w:World)(B:Nat):ZOwn w B (.slice none 0 0) []:=⟨World.ownsRow_nil _ _ _ _,by simp,by simp⟩
theorem ZOwn.below{w w':World}{B:Nat}{v:Value}{ps:List Zp}(h:ZOwn w B v ps)(hb:Below w.heap.size w w'):ZOwn w' B v ps:=
 ⟨own_below h.outer hb,fun i p hp=>own_below (h.inner i p hp) hb,h.apart⟩
theorem ZOwn.base{w:World}{B B':Nat}{v:Value}{ps:List Zp}(h:ZOwn w B v ps)(hb:B'<=B):ZOwn w B' v ps:=
 ⟨own_base h.outer hb,fun i p hp=>own_base (h.inner i p hp) hb,h.apart⟩
theorem ZOwn.beside{w w':World}{B:Nat}{v:Value}{ps:List Zp}{b:Option Nat}(h:ZOwn w B v ps)(hg:w.grownBy w' b)(hv:∀ g,b=some g->v.ownBlock≠some g)(hi:∀ g,b=some g->∀ p∈ps,p.2.ownBlock≠some g):ZOwn w' B v ps:=
 ⟨own_besideZ h.outer hg hv,fun i p hp=>own_besideZ (h.inner i p hp) hg (fun g e=>hi g e p (List.mem_of_getElem? hp)),h.apart⟩
theorem ZOwn.far{w:World}{B g i:Nat}{v y:Value}{ps:List Zp}(h:ZOwn w B v ps)(hg:g<B):ZOwn (w.setCell ⟨g,i,none⟩ y) B v ps:=
 ⟨own_far_lt h.outer hg,fun i p hp=>own_far_lt (h.inner i p hp) hg,h.apart⟩
theorem snoc_cases{α:Type}{xs:List α}{y x:α}{i:Nat}(hx:(xs++[y])[i]? =some x):(i<xs.length∧xs[i]? =some x)∨(i=xs.length∧x=y):=by
 by_cases hi:i<xs.length
 ·rw [List.getElem?_append_left hi] at hx;exact .inl ⟨hi,hx⟩
 ·rw [List.getElem?_append_right (by omega)] at hx
  have h0:i-xs.length=0:=by
   rcases Nat.eq_zero_or_pos (i-xs.length) with h|h
   ·exact h
   ·rw [List.getElem?_eq_none (by simp;omega)] at hx;cases hx
  rw [h0] at hx;simp at hx;exact .inr ⟨by omega,hx.symm⟩
theorem ZOwn.snoc{w w2:World}{B:Nat}{v v' u:Value}{s:Sz}{ps:List Zp}(h:ZOwn w B v ps)
 (hu:w.ownsRow B 9 1 u s.da.length (s.da.map Value.string)) (ha:∀ p∈ps,∀ g,p.2.ownBlock=some g->u.ownBlock≠some g)
 (ho:w2.ownsRow B 65 4 v' (ps.length+1) (zpVs ps++zpV (s,u))) (hg:w.grownBy w2 v.ownBlock):ZOwn w2 B v' (ps++[(s,u)]):=by
 have e:zpVs (ps++[(s,u)])=zpVs ps++zpV (s,u):=by simp [zpVs]
 refine⟨by rw [e];simpa using ho,fun i p hp=>?_,fun i j p q hp hq hne g hg1=>?_⟩
 ·rcases snoc_cases hp with⟨_,hp'⟩|⟨_,rfl⟩
  ·have:=h.inner i p hp';exact own_besideZ this hg (own_kindsZ this h.outer (by decide))
  ·exact own_besideZ hu hg (own_kindsZ hu h.outer (by decide))
 ·rcases snoc_cases hp with⟨hi,hp'⟩|⟨hi,rfl⟩<;>rcases snoc_cases hq with⟨hj,hq'⟩|⟨hj,rfl⟩
  ·exact h.apart i j p q hp' hq' hne g hg1
  ·exact ha p (List.mem_of_getElem? hp') g hg1
  ·intro e;exact ha q (List.mem_of_getElem? hq') g e hg1
  ·omega
theorem ZOwn.more{w w1:World}{B g cap:Nat}{u u':Value}{s:Sz}{d:ByteArray}{ps:List Zp}(h:ZOwn w B (.slice (some ⟨g,0,none⟩) (ps.length+1) cap) (ps++[(s,u)]))
 (ho:w1.ownsRow B 9 1 u' (s.da.length+1) (s.da.map Value.string++[.string d])) (hg:w.grownBy w1 u.ownBlock) (hat:u'.ownBlock=u.ownBlock∨∀ g,u'.ownBlock=some g->w.heap.size<=g):
 ZOwn (w1.setCell ⟨g,ps.length*4+3,none⟩ u') B (.slice (some ⟨g,0,none⟩) (ps.length+1) cap) (ps++[({s with da:=s.da++[d]},u')]):=by
 have hlast:(ps++[(s,u)])[ps.length]? =some (s,u):=by simp
 have hiL:=h.inner _ _ hlast
 have o1:w1.ownsRow B 65 4 (.slice (some ⟨g,0,none⟩) (ps.length+1) cap) (ps.length+1) (zpVs (ps++[(s,u)])):=by
  have:=h.outer;rw [List.length_append] at this;exact own_besideZ this hg (own_kindsZ this hiL (by decide))
 have hlt:∀ (i:Nat) (p:Zp),ps[i]? =some p->(ps++[(s,u)])[i]? =some p:=fun i p hp=>by rw [List.getElem?_append_left (List.getElem?_eq_some_iff.1 hp).1];exact hp
 have hin:∀ (i:Nat) (p:Zp),ps[i]? =some p->w1.ownsRow B 9 1 p.2 p.1.da.length (p.1.da.map Value.string):=by
  intro i p hp;have hpl:=(List.getElem?_eq_some_iff.1 hp).1;exact own_besideZ (h.inner i p (hlt i p hp)) hg (fun g' e e'=>h.apart i ps.length p (s,u) (hlt i p hp) hlast (by omega) g' e' e)
 have hapL:∀ (i:Nat) (p:Zp),ps[i]? =some p->∀ g,p.2.ownBlock=some g->u'.ownBlock≠some g:=by
  intro i p hp g' e e';have hpl:=(List.getElem?_eq_some_iff.1 hp).1
  rcases hat with h1|h1
  ·rw [h1] at e';exact h.apart i ps.length p (s,u) (hlt i p hp) hlast (by omega) g' e e'
  ·have h2:=h1 g' e';have h3:=((h.inner i p (hlt i p hp)).lt g' e).2;omega
 have e1:(zpVs (ps++[(s,u)])).set (ps.length*4+3) u'=zpVs (ps++[({s with da:=s.da++[d]},u')]):=by
  rw [zpVs_app,zpVs_app,List.set_append_right _ _ (by rw [zpVs_len];omega),zpVs_len,show ps.length*4+3-ps.length*4=3 by omega];rfl
 have hst:=o1.stored (ps.length*4+3) u';rw [e1] at hst;have far:∀ {v:Value} {n:Nat} {xs:List Value},w1.ownsRow B 9 1 v n xs->(w1.setCell ⟨g,ps.length*4+3,none⟩ u').ownsRow B 9 1 v n xs:=fun hx=>own_far hx (own_kindsZ hx o1 (by decide) g rfl)
 refine⟨by simpa using hst.1,fun i p hp=>?_,fun i j p q hp hq hne g' hg1=>?_⟩
 ·rcases snoc_cases hp with⟨_,hp'⟩|⟨_,rfl⟩
  ·exact far (hin i p hp')
  ·have:=far ho;simpa using this
 ·rcases snoc_cases hp with⟨hi,hp'⟩|⟨hi,rfl⟩<;>rcases snoc_cases hq with⟨hj,hq'⟩|⟨hj,rfl⟩
  ·exact h.apart i j p q (hlt i p hp') (hlt j q hq') hne g' hg1
  ·exact hapL i p hp' g' hg1
  ·intro e;exact hapL j q hq' g' e hg1
  ·omega
theorem wpList_clear_ran{P:Program}{ops:Array Oper}{rest:List Oper}{o:Oper}{a:Act}{w w':World}{Q:Exit->Act->World->Prop}(hgd:o.guard=none)(x:Operand)(t:TypeId)(ho:o.op=.call {callee:=.builtin .clear,args:=#[x],argTypes:=#[t]})(v:Value)(hx:a.eval x=v)
 (hr:(Builtin.clear_ #[t] o.type #[v]).run P w=.ok (.tuple #[]) w') (h:wpList P ops Q rest (a.put o.dst (.tuple #[])) w'):wpList P ops Q (o::rest) a w:=
 wpList_plain hgd fun _ hK=>by
  unfold Oper.wp;simp [execOp,ho,resolve,invoke,builtin,hx,hr,Result.andThen]
  exact hK _ _ h
theorem mk_len(l:List UInt8):(⟨l.toArray⟩:ByteArray).size=l.length:=by simp [ByteArray.size]
theorem join_len(ls:List ByteArray):(⟨(Nm.joinL ls).toArray⟩:ByteArray).size=Nm.wsum ls+1:=by rw [mk_len,Nm.joinL_length]
theorem srow_new(w:World)(ls:List ByteArray)(hl:ls.length<=maxLen):Nm.SRow (w.alloc (.cells (ls.map Value.string).toArray 9)) (.slice (some ⟨w.heap.size,0,none⟩) ls.length ls.length) ls:=by
 refine⟨_,_,rfl,Nat.le_refl _,hl,fun h=>absurd h (by simp),fun _=>⟨_,_,rfl,fun i x hx=>?_⟩⟩;have k:=blk_new w (ls.map Value.string).toArray 9;rw [Nat.zero_add,blk_cell k i];simp [hx]
def subS(ls:List ByteArray)(ab:ByteArray):ByteArray:=(⟨(Nm.joinL ls).toArray⟩:ByteArray).extract 0 (Nm.wsum ls)++ab
theorem sub_len(ls:List ByteArray)(ab:ByteArray):(subS ls ab).size=Nm.wsum ls+ab.size:=by
 rw [subS,ByteArray.size_append,ByteArray.size_extract,join_len];omega
set_option maxRecDepth 100000 in
set_option maxHeartbeats 1600000 in
theorem l05SubS_any(v:Value)(ls:List ByteArray)(ab:ByteArray)(w:World)(h:Nm.SRow w v ls)(hl:Nm.wsum ls<=100000)(ha:ab.size<=1000000):
 Calls Tryz.prog 19 #[v,.string ab] w fun e w'=>e=.returned (.string (subS ls ab))∧Below w.heap.size w w':=by
 have hj:=fun W (hW:Below w.heap.size w W)=>l01Join_any v ls W (h.below hW) (by omega)
 have hs:=join_len ls
 have HE:Hid (∀ J:ByteArray,(⟨(Nm.joinL ls).toArray⟩:ByteArray)=J->subS ls ab=J.extract 0 (Nm.wsum ls)++ab):=by
  rintro J rfl;rfl
 obtain⟨J,hJ⟩:∃ J:ByteArray,(⟨(Nm.joinL ls).toArray⟩:ByteArray)=J:=⟨_,rfl⟩;have HE2:=Nm.hide (HE.out J hJ);rw [HE2.out];simp only [hJ] at hj hs;have h1:(1:Int)<=(J.size:Int):=by omega
 have h2:J.size<=100001:=by omega
 have h3:(J.size:Int)-1<=(J.size:Int):=by omega
 obtain⟨X,hX⟩:∃ X,X=Nm.wsum ls:=⟨_,rfl⟩;rw [<- hX];have HS:Hid (J.size-1=X):=by show _=_;omega
 obtain⟨va,vn,vc,rfl⟩:∃ a n c,v=.slice a n c:=by obtain⟨a,c,e,_⟩:=h;exact⟨a,_,c,e⟩
 clear h hs HE HE2 hJ hX;go_enter Tryz.func19,Tryz.ntmps19;go_wp2_with fail
 refine(hj _ (Below.refl _ _)).mono ?_;rintro e w1 ⟨rfl,b1⟩;go_wp2_with fail
 refine(hj _ b1).mono ?_;rintro e w2 ⟨rfl,b2⟩;have bw:=Nm.below_two b1 b2;clear b1 b2 hj;go_wp2;go_ret;refine⟨?_,bw⟩;rw [<- HS.out];rfl
theorem l05Sub_any(v:Value)(ls:List ByteArray)(ab:ByteArray)(w:World)(h:Nm.SRow w v ls)(hl:Nm.wsum ls<=100000)(ha:ab.size<=1000000):
 Calls Tryz.prog 19 #[v,.string ab] w fun e w'=>∃ s:ByteArray,e=.returned (.string s)∧s.size=Nm.wsum ls+ab.size∧Below w.heap.size w w':=
 (l05SubS_any v ls ab w h hl ha).mono fun e w' ⟨h1,h2⟩=>⟨_,h1,sub_len ls ab,h2⟩
theorem srow1(w:World)(x:ByteArray):Nm.SRow (w.alloc (.cells #[.string x] 9)) (.slice (some ⟨w.heap.size,0,none⟩) 1 1) [x]:=srow_new w [x] (show 1<=maxLen by decide)
theorem srow2(w:World)(x y:ByteArray):Nm.SRow (w.alloc (.cells #[.string x,.string y] 9)) (.slice (some ⟨w.heap.size,0,none⟩) 2 2) [x,y]:=srow_new w [x,y] (show 2<=maxLen by decide)
theorem srow3(w:World)(x y z:ByteArray):Nm.SRow (w.alloc (.cells #[.string x,.string y,.string z] 9)) (.slice (some ⟨w.heap.size,0,none⟩) 3 3) [x,y,z]:=srow_new w [x,y,z] (show 3<=maxLen by decide)
theorem src_new{w:World}{g n cap:Nat}{a:Option Addr}(h:Src w g a n cap)(o:Obj):Src (w.alloc o) g a n cap:=src_below h ((Below.refl _ _).alloc (Nat.le_refl _) _)
end Go.Proofs.YtmdinnjimioffaaGreat
namespace Go.Proofs.YtmdinnjimioffaaGreat
open Go.RowKit
set_option linter.unusedVariables false
def spl(cs:Array Value):Nat->List Value->Array Value
 |_,[]=>cs
 |o,v::r=>spl (cs.setIfInBounds o v) (o+1) r
def bigL(v n:Nat):List UInt8:=(List.range n).map fun i=>UInt8.ofNat (v / 2 ^ (8*(n-1-i)))
end Go.Proofs.YtmdinnjimioffaaGreat
namespace Go.Proofs.YtmdinnjimioffaaGreat
open Go.RowKit
set_option linter.unusedVariables false
end Go.Proofs.YtmdinnjimioffaaGreat
namespace Go.Proofs.YtmdinnjimioffaaGreat
open Go.RowKit
set_option linter.unusedVariables false
theorem ZOwn.zrow{w:World}{B:Nat}{v:Value}{ps:List Zp}(h:ZOwn w B v ps):ZRow w v ps:=
 ⟨CRow.of_owns h.outer,fun p hp=>by obtain⟨i,hi⟩:=List.getElem?_of_mem hp;exact Nm.SRow.of_owns (h.inner i p hi)⟩
end Go.Proofs.YtmdinnjimioffaaGreat
