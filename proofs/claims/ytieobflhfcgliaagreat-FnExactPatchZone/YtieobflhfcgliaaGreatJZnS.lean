import Derived.Test.YtieobflhfcgliaaGreatJZnM
import Derived.RegionTactic
import Derived.Test.YtieobflhfcgliaaGreatJMath
import Derived.Test.YtieobflhfcgliaaGreatRows
import Derived.WalkSpells
import Derived.WalkLawsBesides
import Derived.BigRegion
import Derived.BigQuiet
import Derived.Deep.QuietTactic
import Derived.Deep.RegionHeld3
namespace Go.Proofs.YtieobflhfcgliaaGreat
open Go.RowKit
set_option linter.unusedVariables false
set_option maxRecDepth 100000 in
set_option maxHeartbeats 800000 in
theorem szSet_any(s:Sz)(dv:Value)(L:Int)(w:World)(h:Nm.SRow w dv s.da)(h0:0<=L)(h1:L<=1048576)(ho:s.own.size<=maxLen)(hd:∀ x∈s.da,x.size<=maxLen):
 Calls Tryz.prog 43 #[.agg #[.string s.own,.int .i64 s.ty,.int .i64 s.tt,dv],.int .i64 L] w fun e w'=>e=.returned (.int .i64 (szZ1 s L))∧Below w.heap.size w w':=by
 unfold maxLen at ho;have hB:=(Below.refl w.heap.size w).alloc (Nat.le_refl _) (.cells #[.string s.own,.int .i64 s.ty,.int .i64 s.tt,dv] 71);have hcall:=fun K h0 h1=>szStringS_any dv s.da K _ (h.below hB) hd h0 h1
 obtain⟨a,cap,rfl,_⟩:=h;obtain⟨o,ty,tt,da⟩:=s;simp only at*
 by_cases hm:L-o.size<0
 ·have HS:Hid (szZ1 ⟨o,ty,tt,da⟩ L= -1):=if_neg (by simp only [zs1];omega);clear hcall hd;go_enter Tryz.func43,Tryz.ntmps43;go_wp2;go_ret;rw [HS.out];exact⟨rfl,hB⟩
 ·have hm':0<=L-o.size:=by omega
  have hone:=hcall (L-o.size) hm' (by omega);clear hcall hd
  by_cases hn:(da.length:Int)+(ssum da:Int)<=L-o.size
  ·have HS:Hid (szZ1 ⟨o,ty,tt,da⟩ L=L-o.size-da.length-ssum da):=by
    show _=_
    rw [szZ1,if_pos (by simp only [zs1];omega)];simp only [zs1];omega
   have e1:szS da (L-o.size)=L-o.size-da.length-ssum da:=if_pos hn;have hnn:0<=L-o.size-da.length-ssum da:=by omega
   rw [e1] at hone;clear e1 hn;generalize (L-(o.size:Int)-(da.length:Int)-(ssum da:Int))=L2 at*;go_enter Tryz.func43,Tryz.ntmps43;go_wp2_with (go_at_call 71;refine hone.mono ?_;rintro e w1 ⟨rfl,rfl⟩)
   go_ret;rw [HS.out];exact⟨rfl,hB⟩
  ·have HS:Hid (szZ1 ⟨o,ty,tt,da⟩ L= -1):=if_neg (by simp only [zs1];omega);have e1:szS da (L-o.size)= -1:=if_neg hn;rw [e1] at hone;clear e1 hn;go_enter Tryz.func43,Tryz.ntmps43;go_wp2_with (go_at_call 71;refine hone.mono ?_;rintro e w1 ⟨rfl,rfl⟩)
   go_ret;rw [HS.out];exact⟨rfl,hB⟩
set_option maxRecDepth 100000 in
set_option maxHeartbeats 1600000 in
theorem szSetS_any(v:Value)(ps:List Zp)(L:Int)(w:World)(h:ZRow w v ps)(hx:ZFit ps)(h0:0<=L)(h1:L<=1048576):
 Calls Tryz.prog 19 #[v,.int .i64 L] w fun e w'=>e=.returned (.int .i64 (szZS ps L))∧Below w.heap.size w w':=by
 obtain⟨⟨_,a,cap,rfl,hcap,hmx,hc⟩,hd⟩:=h;unfold maxLen at hmx
 by_cases hm:L<ps.length
 ·have HS:Hid (szZS ps L= -1):=if_neg (by omega);have hm':L-(ps.length:Int)<0:=by omega
  clear hx hc hd;go_enter Tryz.func19,Tryz.ntmps19;go_wp2;go_ret;rw [HS.out];exact⟨rfl,Below.refl _ _⟩
 ·have hl:(ps.length:Int)<=1048576:=by omega
  have hm':(0:Int)<=L-(ps.length:Int):=by omega
  have hsz:=fun(p:Zp) (hp:p∈ps) (K:Int) (W:World) (hW:Below w.heap.size w W) (h0:0<=K) (h1:K<=1048576)=>szSet_any p.1 p.2 K W ((hd p hp).below hW) h0 h1 (hx p hp).1 (hx p hp).2
  clear hd;go_enter Tryz.func19,Tryz.ntmps19;go_wp2
  go_loopw [1,5] (fun t i wr=>∃ k:Nat,k<=ps.length∧i=.int .i64 k∧t=.int .i64 (L-ps.length-zsum (ps.take k))∧Hid ((ps.length:Int)+zsum (ps.take k)<=L)∧Below w.heap.size w wr) (fun _ i _=>ps.length-(intOf i).toNat)
  case atStart=>exact⟨0,Nat.zero_le _,rfl,by simp [zsum],by show _<=L;simp [zsum];omega,Below.refl _ _⟩
  case round=>
   obtain⟨k,hk,rfl,rfl,hle,hbel⟩:=hrel
   by_cases hlt:k<ps.length
   ·obtain⟨x,hxk⟩:∃ x,ps[k]? =some x:=⟨_,List.getElem?_eq_getElem hlt⟩;obtain⟨b,off,rfl,hcell⟩:=hc (by omega);obtain⟨c0,c1,c2,c3⟩:=zp_cells hcell hxk;have put:∀ {O:Nat} {z:Value},w.cell? ⟨b,O,none⟩=some z->wr.cell? ⟨b,O,none⟩=some z:=fun h=>(hbel.cell (World.block_lt_of_cell? w _ h)).trans h
    replace c0:=put c0
    replace c1:=put c1
    replace c2:=put c2
    replace c3:=put c3
    have HS:Hid (zsum (ps.take (k+1))=zsum (ps.take k)+zs1 x.1):=zsum_step ps k x hxk;have hs1:Hid (zsum (ps.take (k+1))<=zsum ps):=zsum_take_le ps (k+1);have hone:=hsz x (List.mem_of_getElem? hxk) (L-ps.length-zsum (ps.take k)) wr hbel (by have:=hle.out;omega) (by omega);have i1:(0:Int)<=(k:Int):=by omega
    have i2:(k:Int)<(ps.length:Int):=by omega
    by_cases hb:(zs1 x.1:Int)<=L-ps.length-zsum (ps.take k)
    ·have e1:szZ1 x.1 (L-ps.length-zsum (ps.take k))=L-ps.length-zsum (ps.take (k+1)):=by
      have:=HS.out;rw [szZ1,if_pos hb];omega
     have hnn:0<=L-(ps.length:Int)-zsum (ps.take (k+1)):=by have:=HS.out;omega
     have hle2:Hid ((ps.length:Int)+zsum (ps.take (k+1))<=L):=by show _<=L;omega
     rw [e1] at hone;clear hxk hcell hc hx hsz HS hb e1 hs1;generalize hL2:(L-(ps.length:Int)-(zsum (ps.take (k+1)):Int))=L2 at*;generalize (L-(ps.length:Int)-(zsum (ps.take k):Int))=L1 at*;go_wp2_with (go_at_call 43;refine hone.mono ?_;rintro e w1 ⟨rfl,hb1⟩)
     go_roundw
     case rel=>exact⟨k+1,by omega,by go_num,by rw [hL2],hle2,Nm.below_two hbel hb1⟩
     case measure=>simp [intOf];omega
    ·have HZ:Hid (szZS ps L= -1):=if_neg (by have:=HS.out;have:=hs1.out;omega);have e1:szZ1 x.1 (L-ps.length-zsum (ps.take k))= -1:=if_neg hb;rw [e1] at hone;clear hxk hcell hc hx hsz HS hb e1 hs1;generalize (L-(ps.length:Int)-(zsum (ps.take k):Int))=L1 at*;go_wp2_with (go_at_call 43;refine hone.mono ?_;rintro e w1 ⟨rfl,hb1⟩)
     go_ret;rw [HZ.out];exact⟨rfl,Nm.below_two hbel hb1⟩
   ·have hkl:k=ps.length:=by omega
    have HZ:Hid (szZS ps L=L-ps.length-zsum (ps.take k)):=by
     have:=hle.out;rw [hkl,List.take_length] at this ⊢;exact if_pos this
    have i2:(ps.length:Int)<=(k:Int):=by omega
    clear hc hx hsz;generalize (L-(ps.length:Int)-(zsum (ps.take k):Int))=L1 at*;go_wp2;go_ret;rw [HZ.out];exact⟨rfl,hbel⟩
set_option maxRecDepth 100000 in
set_option maxHeartbeats 1600000 in
theorem szZone_any(o:ByteArray)(v:Value)(ps:List Zp)(L:Int)(w:World)(h:ZRow w v ps)(hx:ZFit ps)(ho:o.size<=maxLen)(h0:0<=L)(h1:L<=1048576):
 Calls Tryz.prog 5 #[.agg #[.string o,v],.int .i64 L] w fun e w'=>e=.returned (.int .i64 (szZ o ps L))∧Below w.heap.size w w':=by
 unfold maxLen at ho;have hB:=(Below.refl w.heap.size w).alloc (Nat.le_refl _) (.cells #[.string o,v] 24);have hcall:=fun K h0 h1=>szSetS_any v ps K _ (h.below hB) hx h0 h1
 obtain⟨⟨_,a,cap,rfl,_⟩,_⟩:=h;clear hx
 by_cases hm:L-o.size<0
 ·have HS:Hid (szZ o ps L= -1):=if_neg (by omega);clear hcall;go_enter Tryz.func5,Tryz.ntmps5;go_wp2;go_ret;rw [HS.out];exact⟨rfl,hB⟩
 ·have hm':0<=L-o.size:=by omega
  have hone:=hcall (L-o.size) hm' (by omega);clear hcall
  by_cases hn:(ps.length:Int)+(zsum ps:Int)<=L-o.size
  ·have HS:Hid (szZ o ps L=L-o.size-ps.length-zsum ps):=if_pos (by omega);have e1:szZS ps (L-o.size)=L-o.size-ps.length-zsum ps:=if_pos hn;have hnn:0<=L-o.size-ps.length-zsum ps:=by omega
   rw [e1] at hone;clear e1 hn;generalize (L-(o.size:Int)-(ps.length:Int)-(zsum ps:Int))=L2 at*;go_enter Tryz.func5,Tryz.ntmps5;go_wp2_with (go_at_call 19;refine hone.mono ?_;rintro e w1 ⟨rfl,hb1⟩)
   go_ret;rw [HS.out];exact⟨rfl,Nm.below_two hB hb1⟩
  ·have HS:Hid (szZ o ps L= -1):=if_neg (by omega);have e1:szZS ps (L-o.size)= -1:=if_neg hn;rw [e1] at hone;clear e1 hn;go_enter Tryz.func5,Tryz.ntmps5;go_wp2_with (go_at_call 19;refine hone.mono ?_;rintro e w1 ⟨rfl,hb1⟩)
   go_ret;rw [HS.out];exact⟨rfl,Nm.below_two hB hb1⟩
end Go.Proofs.YtieobflhfcgliaaGreat
namespace Go.Proofs.YtieobflhfcgliaaGreat
open Go.RowKit
set_option maxRecDepth 100000 in
set_option maxHeartbeats 800000 in
theorem eqStringS_any(v u:Value)(ls:List ByteArray)(w:World)(h:Nm.SRow w v ls)(h':Nm.SRow w u ls)(hlen:ls.length<=1000000000):
 Calls Tryz.prog 96 #[v,u] w fun e w'=>e=.returned (.bool true)∧Below w.heap.size w w':=by
 obtain⟨a,cap,rfl,hcap,hmx,hnl,hc⟩:=h;obtain⟨a',cap',rfl,hcap',hmx',hnl',hc'⟩:=h';have hne:((ls.length:Int) != (ls.length:Int))=false:=by simp
 clear hnl hnl';go_enter Tryz.func96,Tryz.ntmps96;go_wp2
 go_loopw [5] (fun i wr=>∃ k:Nat,k<=ls.length∧i=.int .i64 k∧Below w.heap.size w wr) (fun i _=>ls.length-(intOf i).toNat)
 case atStart=>exact⟨0,Nat.zero_le _,rfl,Below.refl _ _⟩
 case round=>
  obtain⟨k,hk,rfl,hbel⟩:=hrel
  by_cases hlt:k<ls.length
  ·obtain⟨x,hx⟩:∃ x,ls[k]? =some x:=⟨_,List.getElem?_eq_getElem hlt⟩;have hls:ls≠[]:=by intro h;rw [h] at hlt;simp at hlt
   obtain⟨b,off,rfl,hcell⟩:=hc hls;obtain⟨b',off',rfl,hcell'⟩:=hc' hls;have hcx:wr.cell? ⟨b,off+k,none⟩=some (.string x):=(hbel.cell (World.block_lt_of_cell? w _ (hcell k x hx))).trans (hcell k x hx);have hcx':wr.cell? ⟨b',off'+k,none⟩=some (.string x):=(hbel.cell (World.block_lt_of_cell? w _ (hcell' k x hx))).trans (hcell' k x hx);have hxx:(x.toList==x.toList)=true:=by simp
   clear hx hcell hcell' hc hc' hls;go_wp2;go_region
   all_goals
    go_wp2;go_roundw
    case rel=>exact⟨k+1,by omega,by go_num,hbel.drew⟩
    case measure=>simp [intOf];omega
  ·go_wp2;go_ret;exact⟨rfl,hbel⟩
end Go.Proofs.YtieobflhfcgliaaGreat
namespace Go.Proofs.YtieobflhfcgliaaGreat
open Go.RowKit
set_option linter.unusedVariables false
theorem strz_ne(s:ByteArray):(s.toList != s.toList)=false∧(s.toList==s.toList)=true:=by simp
set_option maxRecDepth 100000 in
set_option maxHeartbeats 800000 in
theorem eqSet_any(s:Sz)(dv du:Value)(w:World)(h:Nm.SRow w dv s.da)(h':Nm.SRow w du s.da)(hl:s.da.length<=1000000000):
 Calls Tryz.prog 59 #[.agg #[.string s.own,.int .i64 s.ty,.int .i64 s.tt,dv],.agg #[.string s.own,.int .i64 s.ty,.int .i64 s.tt,du]] w fun e w'=>e=.returned (.bool true)∧Below w.heap.size w w':=by
 obtain⟨o,ty,tt,da⟩:=s;simp only at*
 have e1:(ty != ty)=false:=by simp
 have e2:(tt != tt)=false:=by simp
 obtain⟨e3,e4⟩:=strz_ne o;have hB:=((Below.refl w.heap.size w).alloc (Nat.le_refl _) (.cells #[.string o,.int .i64 ty,.int .i64 tt,dv] 75)).alloc (by simp) (.cells #[.string o,.int .i64 ty,.int .i64 tt,du] 75);have hone:=eqStringS_any dv du da _ (h.below hB) (h'.below hB) hl;obtain⟨a,cap,rfl,_⟩:=h;obtain⟨a',cap',rfl,_⟩:=h';go_enter Tryz.func59,Tryz.ntmps59;go_wp2_with (go_at_call 96;refine hone.mono ?_;rintro e w1 ⟨rfl,hb1⟩)
 go_ret;exact⟨rfl,Nm.below_two hB hb1⟩
set_option maxRecDepth 100000 in
set_option maxHeartbeats 1600000 in
theorem eqSetS_any(v u:Value)(qs rs:List Zp)(w:World)(h:ZRow w v qs)(h':ZRow w u rs)(he:qs.map (·.1)=rs.map (·.1))(hd:∀ q∈qs,q.1.da.length<=1000000000):
 Calls Tryz.prog 32 #[v,u] w fun e w'=>e=.returned (.bool true)∧Below w.heap.size w w':=by
 have hlen:rs.length=qs.length:=by have:=congrArg List.length he;simpa using this.symm
 obtain⟨⟨_,a,cap,rfl,hcap,hmx,hc⟩,hq⟩:=h;obtain⟨⟨_,a',cap',rfl,hcap',hmx',hc'⟩,hr⟩:=h';unfold maxLen at hmx hmx';rw [hlen] at hcap' hc' ⊢;have hne:((qs.length:Int) != (qs.length:Int))=false:=by simp
 go_enter Tryz.func32,Tryz.ntmps32;go_wp2
 go_loopw [5] (fun i wr=>∃ k:Nat,k<=qs.length∧i=.int .i64 k∧Below w.heap.size w wr) (fun i _=>qs.length-(intOf i).toNat)
 case atStart=>exact⟨0,Nat.zero_le _,rfl,Below.refl _ _⟩
 case round=>
  obtain⟨k,hk,rfl,hbel⟩:=hrel
  by_cases hlt:k<qs.length
  ·obtain⟨x,hx⟩:∃ x,qs[k]? =some x:=⟨_,List.getElem?_eq_getElem hlt⟩;obtain⟨y,hy⟩:∃ y,rs[k]? =some y:=⟨_,List.getElem?_eq_getElem (by omega)⟩
   have hxy:y.1=x.1:=by
    have:=congrArg (fun l=>l[k]?) he;simp [hx,hy] at this
    exact this.symm
   obtain⟨b,off,rfl,hcell⟩:=hc (by omega);obtain⟨b',off',rfl,hcell'⟩:=hc' (by omega);have R1:=zp_cells hcell hx;have R2:=zp_cells hcell' hy;have s1:=hq x (List.mem_of_getElem? hx);have s2:=hr y (List.mem_of_getElem? hy);have hdl:=hd x (List.mem_of_getElem? hx);rw [hxy] at R2 s2;obtain⟨s,dv⟩:=x;obtain⟨s',du⟩:=y;simp only at hxy R1 R2 s1 s2 hdl
   have heq:=fun W (hW:Below w.heap.size w W)=>(eqSet_any s dv du W (s1.below hW) (s2.below hW) hdl).mono (R':=fun e w'=>e=.returned (.bool true)∧Below w.heap.size w w') (by rintro e w' ⟨he,hb⟩;exact⟨he,hW.trans (hb.mono hW.size)⟩)
   obtain⟨o,ty,tt,da⟩:=s;simp only at R1 R2 heq
   have hS:∀ W,Below w.heap.size w W->((W.cell? ⟨b,off+k*4,none⟩=some (.string o)∧W.cell? ⟨b,off+k*4+1,none⟩=some (.int .i64 ty)∧W.cell? ⟨b,off+k*4+2,none⟩=some (.int .i64 tt)∧W.cell? ⟨b,off+k*4+3,none⟩=some dv)∧(W.cell? ⟨b',off'+k*4,none⟩=some (.string o)∧W.cell? ⟨b',off'+k*4+1,none⟩=some (.int .i64 ty)∧W.cell? ⟨b',off'+k*4+2,none⟩=some (.int .i64 tt)∧W.cell? ⟨b',off'+k*4+3,none⟩=some du))∧Below w.heap.size w W:=by
    intro W hW;have put:∀ {B O:Nat} {z:Value},w.cell? ⟨B,O,none⟩=some z->W.cell? ⟨B,O,none⟩=some z:=fun h=>(hW.cell (World.block_lt_of_cell? w _ h)).trans h
    exact⟨⟨⟨put R1.1,put R1.2.1,put R1.2.2.1,put R1.2.2.2⟩,⟨put R2.1,put R2.2.1,put R2.2.2.1,put R2.2.2.2⟩⟩,hW⟩
   have hS0:=hS wr.drew hbel.drew;have i1:(0:Int)<=(k:Int):=by omega
   have i2:(k:Int)<(qs.length:Int):=by omega
   clear hc hc' hcell hcell' hx hy R1 R2 s1 s2 hq hr he hd;go_wp2;go_region_held3 (fun W=>((W.cell? ⟨b,off+k*4,none⟩=some (.string o)∧W.cell? ⟨b,off+k*4+1,none⟩=some (.int .i64 ty)∧W.cell? ⟨b,off+k*4+2,none⟩=some (.int .i64 tt)∧W.cell? ⟨b,off+k*4+3,none⟩=some dv)∧(W.cell? ⟨b',off'+k*4,none⟩=some (.string o)∧W.cell? ⟨b',off'+k*4+1,none⟩=some (.int .i64 ty)∧W.cell? ⟨b',off'+k*4+2,none⟩=some (.int .i64 tt)∧W.cell? ⟨b',off'+k*4+3,none⟩=some du))∧Below w.heap.size w W) (first|with_reducible assumption|with_reducible exact hS0) ((first|(go_at_call 59;refine(heq _ hS0.2).mono ?_;rintro e w' ⟨rfl,hb1⟩;have hS1:=hS _ hb1)))
   go_wp2;go_roundw
   case rel=>exact⟨k+1,by omega,by go_num,hS1.2⟩
   case measure=>simp [intOf];omega
  ·clear hc hc' hq hr;have i2:(qs.length:Int)<=(k:Int):=by omega
   go_wp2;go_ret;exact⟨rfl,hbel⟩
set_option maxRecDepth 100000 in
set_option maxHeartbeats 800000 in
theorem eqZone_any(o:ByteArray)(v u:Value)(qs rs:List Zp)(w:World)(h:ZRow w v qs)(h':ZRow w u rs)(he:qs.map (·.1)=rs.map (·.1))(hd:∀ q∈qs,q.1.da.length<=1000000000):
 Calls Tryz.prog 10 #[.agg #[.string o,v],.agg #[.string o,u]] w fun e w'=>e=.returned (.bool true)∧Below w.heap.size w w':=by
 obtain⟨e3,e4⟩:=strz_ne o;have hB:=((Below.refl w.heap.size w).alloc (Nat.le_refl _) (.cells #[.string o,v] 35)).alloc (by simp) (.cells #[.string o,u] 35);have hone:=eqSetS_any v u qs rs _ (h.below hB) (h'.below hB) he hd;obtain⟨⟨_,a,cap,rfl,_⟩,_⟩:=h;obtain⟨⟨_,a',cap',rfl,_⟩,_⟩:=h';clear he hd;go_enter Tryz.func10,Tryz.ntmps10;go_wp2_with (go_at_call 32;refine hone.mono ?_;rintro e w1 ⟨rfl,hb1⟩)
 go_ret;exact⟨rfl,Nm.below_two hB hb1⟩
end Go.Proofs.YtieobflhfcgliaaGreat
