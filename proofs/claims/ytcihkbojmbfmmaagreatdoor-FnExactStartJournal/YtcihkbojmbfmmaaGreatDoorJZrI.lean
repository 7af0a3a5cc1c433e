import Derived.Test.YtcihkbojmbfmmaaGreatDoorJMath
import Derived.Test.YtcihkbojmbfmmaaGreatDoorJZnT
import Derived.Test.YtcihkbojmbfmmaaGreatDoorJBzR
import Derived.RegionTactic
import Derived.BigRegion
import Derived.Deep.RegionHeld3
import Derived.Deep.AppendSrc
import Derived.Test.YtcihkbojmbfmmaaGreatDoorJBuW
import Derived.Test.YtcihkbojmbfmmaaGreatDoorJSjC
namespace Go.Proofs.YtcihkbojmbfmmaaGreatDoor
open Go.RowKit
set_option linter.unusedVariables false
theorem Tryz.infoRri:(Tryz.prog.info? 73).map (fun i=>(i.zero,i.size,i.bytes))=some (some (.agg #[.string ByteArray.empty,.int .i64 0,.int .i64 0,.int .i64 0,.string ByteArray.empty]),5,56):=by kernel_rfl
set_option maxRecDepth 100000 in
set_option maxHeartbeats 1600000 in
theorem isSmall_any(o:ByteArray)(v:Value)(ps:List Zp)(w:World)(h:ZRow w v ps)(hd:∀ p∈ps,p.1.da.length<=1048576):
 Calls Tryz.prog 64 #[.agg #[.string o,v]] w fun e w'=>e=.returned (.bool (decide (ps.length<=500∧dsum ps<=500)))∧Below w.heap.size w w':=by
 have hB0:=(Below.refl w.heap.size w).alloc (Nat.le_refl _) (.cells #[.string o,v] 31);have hrowW:=h;obtain⟨⟨_,a,cap,rfl,hcap,hmx,_⟩,_⟩:=h;unfold maxLen at hmx;obtain⟨RB,hRB⟩:∃ b,b=decide (ps.length<=500∧dsum ps<=500):=⟨_,rfl⟩;rw [<- hRB]
 by_cases hbig:500<ps.length
 ·have hbig':(500:Int)<(ps.length:Int):=by omega
  obtain rfl:RB=false:=by rw [hRB];simp;omega
  clear hrowW hRB;go_enter Tryz.func64,Tryz.ntmps64;go_wp2;go_ret;exact⟨rfl,hB0⟩
 ·have hbig':(ps.length:Int)<=500:=by omega
  have HRB:=Nm.hide hRB;clear hRB;go_enter Tryz.func64,Tryz.ntmps64;go_wp2
  go_loopw [3,13] (fun t i wr=>∃ k:Nat,k<=ps.length∧i=.int .i64 k∧t=.int .i64 (dsum (ps.take k):Int)∧dsum (ps.take k)<=500∧Below w.heap.size w wr) (fun _ i _=>ps.length-(intOf i).toNat)
  case atStart=>exact⟨0,Nat.zero_le _,rfl,by simp [dsum],by simp [dsum],hB0⟩
  case round=>
   obtain⟨k,hk,rfl,rfl,hle,hbel⟩:=hrel
   by_cases hlt:k<ps.length
   ·obtain⟨x,hxk⟩:∃ x,ps[k]? =some x:=⟨_,List.getElem?_eq_getElem hlt⟩;obtain⟨⟨_,a',cap',hv,_,_,hc⟩,hsr⟩:=hrowW.below hbel;simp only [Value.slice.injEq] at hv;obtain⟨rfl,_,rfl⟩:=hv;obtain⟨b,off,rfl,hcell⟩:=hc (by omega);obtain⟨c0,c1,c2,c3⟩:=zp_cells hcell hxk;have hmem:=List.mem_of_getElem? hxk;obtain⟨da',dc,hdv,_⟩:=hsr x hmem;have HS:=dsum_step ps k x hxk;have hs1:=dsum_take_le ps (k+1);have hdl:=hd x hmem;have i1:(0:Int)<=(k:Int):=by omega
    have i2:(k:Int)<(ps.length:Int):=by omega
    have hB1:=hbel.alloc hbel.size (.cells #[.string x.1.own,.int .i64 x.1.ty,.int .i64 x.1.tt,x.2] 58);have hfin:((dsum (ps.take (k+1)):Nat):Int)=(dsum (ps.take k):Int)+(x.1.da.length:Int):=by omega
    have hbd:(dsum (ps.take k):Int)+(x.1.da.length:Int)<=2000000:=by omega
    have hno:500<dsum (ps.take (k+1))->RB=false:=by
     intro hx;rw [HRB.out];simp;omega
    clear hcell hc hsr hrowW hmem hxk;obtain⟨⟨o1,ty,tt,da⟩,dv⟩:=x;simp only at c0 c1 c2 c3 hdv hfin hbd hB1
    subst hdv;generalize hz:dsum (ps.take (k+1))=z1 at*;generalize dsum (ps.take k)=z0 at*
    by_cases hgt:500<z1
    ·obtain rfl:RB=false:=hno hgt;have hgt':(500:Int)<(z0:Int)+(da.length:Int):=by omega
     clear HRB hno;go_wp2;go_ret;exact⟨rfl,hB1⟩
    ·have hgt':(z0:Int)+(da.length:Int)<=500:=by omega
     clear hno;go_wp2;go_roundw
     case rel=>exact⟨k+1,by omega,by go_num,by rw [hz,hfin],by omega,hB1⟩
     case measure=>simp [intOf];omega
   ·have hkl:k=ps.length:=by omega
    subst hkl;rw [List.take_length] at hle;obtain rfl:RB=true:=by rw [HRB.out];simp;omega
    have i2:(ps.length:Int)<=(ps.length:Int):=by omega
    clear hrowW HRB;go_wp2;go_ret;exact⟨rfl,hbel⟩
set_option maxRecDepth 100000 in
set_option maxHeartbeats 3200000 in
theorem records_any(s:Sz)(dv:Value)(w:World)(h:Nm.SRow w dv s.da)(hl:s.da.length<=1048576)(ho:s.own.size<=1048576)(hx:∀ x∈s.da,x.size<=1048576):
 Calls Tryz.prog 65 #[.agg #[.string s.own,.int .i64 s.ty,.int .i64 s.tt,dv]] w fun e w'=>∃ u,e=.returned u∧w'.ownsRow w.heap.size 73 5 u (recsOf s).length (rvVs (recsOf s))∧(s.da=[]->u=.slice none 0 0)∧Below w.heap.size w w':=by
 obtain⟨i0,hi,hz0,hz1,hz2⟩:=info_parts Tryz.infoRri;have hrl:=recsOf_len s;have hget:=fun(k:Nat) (d:ByteArray) (h:s.da[k]? =some d)=>recsOf_get (s:=s) h
 generalize recsOf s=rs at*;obtain⟨o,ty,tt,da⟩:=s;simp only at*
 have hclo:=fun W=>clone_any o W (by omega)
 have hcld:=fun(x:ByteArray) (hm:x∈da) W=>clone_any x W (by have:=hx x hm;omega)
 have hB0:=(Below.refl w.heap.size w).alloc (Nat.le_refl _) (.cells #[.string o,.int .i64 ty,.int .i64 tt,dv] 58);have hrow:=h.below hB0;have hbx:=blk_new w #[.string o,.int .i64 ty,.int .i64 tt,dv] 58;obtain⟨a,cap,rfl,hcap,hmx,hnl,hc⟩:=hrow;clear h hx;unfold maxLen at hmx;go_enter Tryz.func65,Tryz.ntmps65;go_wp2;generalize w.alloc (.cells #[.string o,.int .i64 ty,.int .i64 tt,.slice a da.length cap] 58)=w0 at*
 have hall:∀ W,Below w0.heap.size w0 W->∀ (k:Nat) (x:ByteArray),da[k]? =some x->∃ b off,a=some ⟨b,off,none⟩∧W.cell? ⟨b,off+k,none⟩=some (.string x):=by
  intro W hW k x hx;obtain⟨b,off,rfl,hcell⟩:=hc (by intro h;rw [h] at hx;simp at hx);have h0:=hcell k x hx;exact⟨b,off,rfl,(hW.cell (World.block_lt_of_cell? w0 _ h0)).trans h0⟩
 have hbox:∀ W,Below w0.heap.size w0 W->W.cell? ⟨w.heap.size,0,none⟩=some (.string o)∧W.cell? ⟨w.heap.size,1,none⟩=some (.int .i64 ty)∧W.cell? ⟨w.heap.size,2,none⟩=some (.int .i64 tt)∧W.cell? ⟨w.heap.size,3,none⟩=some (.slice a da.length cap):=by
  intro W hW;have hb:=blk_below hbx hW;exact⟨(blk_cell hb 0).trans rfl,(blk_cell hb 1).trans rfl,(blk_cell hb 2).trans rfl,(blk_cell hb 3).trans rfl⟩
 clear hc hbx
 go_loopw [3,9] (fun vo vi wr=>∃ k:Nat,k<=da.length∧vi=.int .i64 k∧wr.ownsRow w0.heap.size 73 5 vo k (rvVs (rs.take k))∧(k=0->vo=.slice none 0 0)∧Below w0.heap.size w0 wr) (fun _ vi _=>da.length-(intOf vi).toNat)
 case atStart=>exact⟨0,Nat.zero_le _,rfl,⟨rfl,.inl ⟨rfl,rfl⟩⟩,fun _=>rfl,Below.refl _ _⟩
 case round=>
  obtain⟨k,hk,rfl,oO,hnil,hbel⟩:=hrel
  by_cases hlt:k<da.length
  ·obtain⟨x,hx⟩:∃ x,da[k]? =some x:=⟨_,List.getElem?_eq_getElem hlt⟩;obtain⟨b,off,rfl,hcc⟩:=hall wr hbel k x hx;have hcl2:=fun W=>hcld x (List.mem_of_getElem? hx) W
   have HT:Hid (rvVs (rs.take k)++[.string o,.int .i64 ty,.int .i64 1,.int .i64 tt,.string x]=rvVs (rs.take (k+1))):=by
    show _=_
    rw [hget k x hx,rvVs_app];rfl
   have i1:(0:Int)<=(k:Int):=by omega
   have i2:(k:Int)<(da.length:Int):=by omega
   clear hall hget hx hcld hnil;go_wp2_with fail
   refine wp_region_held_drew (S:=fun W=>Below w0.heap.size w0 W) (by kernel_rfl) hbel.drew (fun hHeld=>?_);refine wpAnyH_take (i:=0) (v:=?_) rfl (by kernel_rfl) (by kernel_rfl) (by kernel_rfl) (fun _ _ _ h=>h) (Or.inl ⟨by rfl,?_⟩) (by assumption) ?_;rotate_left 1
   ·(intro W hSW;obtain⟨z0,z1,z2,z3⟩:=hbox W hSW;go_simp;try (with_reducible rfl))
   refine wpAnyH_take (i:=1) (v:=?_) rfl (by kernel_rfl) (by kernel_rfl) (by kernel_rfl) (fun _ _ _ h=>h) (Or.inl ⟨by rfl,?_⟩) (by assumption) ?_;rotate_left 1
   ·(intro W hSW;obtain⟨z0,z1,z2,z3⟩:=hbox W hSW;go_simp;try (with_reducible rfl))
   refine wpAnyH_take (i:=2) (v:=?_) rfl (by kernel_rfl) (by kernel_rfl) (by kernel_rfl) (fun _ _ _ h=>h) (Or.inl ⟨by rfl,?_⟩) (by assumption) ?_;rotate_left 1
   ·(intro W hSW;obtain⟨z0,z1,z2,z3⟩:=hbox W hSW;go_simp;try (with_reducible rfl))
   refine wpAnyH_take (i:=4) (v:=?_) rfl (by kernel_rfl) (by kernel_rfl) (by kernel_rfl) (fun _ _ _ h=>h) (Or.inl ⟨by rfl,?_⟩) (by assumption) ?_;rotate_left 1
   ·(intro W hSW;obtain⟨z0,z1,z2,z3⟩:=hbox W hSW;go_simp;try (with_reducible rfl))
   refine wpAnyH_take (i:=5) (v:=?_) rfl (by kernel_rfl) (by kernel_rfl) (by kernel_rfl) (fun _ _ _ h=>h) (Or.inl ⟨by rfl,?_⟩) (by assumption) ?_;rotate_left 1
   ·(intro W hSW;obtain⟨z0,z1,z2,z3⟩:=hbox W hSW;go_simp;try (with_reducible rfl))
   refine wpAnyH_take (i:=6) (v:=?_) rfl (by kernel_rfl) (by kernel_rfl) (by kernel_rfl) (fun _ _ _ h=>h) (Or.inl ⟨by rfl,?_⟩) (by assumption) ?_;rotate_left 1
   ·(intro W hSW;obtain⟨z0,z1,z2,z3⟩:=hbox W hSW;go_simp;try (with_reducible rfl))
   refine wpAnyH_take (i:=7) (v:=?_) rfl (by kernel_rfl) (by kernel_rfl) (by kernel_rfl) (fun _ _ _ h=>h) (Or.inl ⟨by rfl,?_⟩) (by assumption) ?_;rotate_left 1
   ·(intro W hSW;obtain⟨z0,z1,z2,z3⟩:=hbox W hSW;go_simp;try (with_reducible rfl))
   refine wpAnyH_take (i:=8) (v:=?_) rfl (by kernel_rfl) (by kernel_rfl) (by kernel_rfl) (fun _ _ _ h=>h) (Or.inl ⟨by rfl,?_⟩) (by assumption) ?_;rotate_left 1
   ·(intro W hSW;obtain⟨z0,z1,z2,z3⟩:=hbox W hSW;go_simp;try (with_reducible rfl))
   refine wpAnyH_ready (rs:=[3]) (by kernel_rfl) (by simp) ?_;refine AllReadyH.cons rfl (fun K hK=>?_) AllReadyH.nil;go_simp;refine(hclo _).mono ?_;rintro e w3 ⟨rfl,hb3⟩;have hS3:Below w0.heap.size w0 w3:=Below.trans hHeld (hb3.mono hHeld.size);have oO3:=own_below (own_below oO (Below.refl _ _).drew) hb3;go_wp2_with fail
   refine hK.out _ _ hS3 (fun _=>?_);clear hK K;refine wpAnyH_ready (rs:=[9]) (by kernel_rfl) (by simp) ?_;refine AllReadyH.cons rfl (fun K hK=>?_) AllReadyH.nil;go_simp;refine(hcl2 _).mono ?_;rintro e w4 ⟨rfl,hb4⟩;have hS4:Below w0.heap.size w0 w4:=Below.trans hS3 (hb4.mono hS3.size);have oO4:=own_below oO3 hb4;go_wp2_with fail
   refine hK.out _ _ hS4 (fun _=>?_);clear hK K oO3 hS3;refine wpAnyH_take (i:=10) (v:=?_) rfl (by kernel_rfl) (by kernel_rfl) (by kernel_rfl) (fun _ _ _ h=>h) (Or.inl ⟨by rfl,?_⟩) (by assumption) ?_;rotate_left 1
   ·(intro W hSW;obtain⟨z0,z1,z2,z3⟩:=hbox W hSW;go_simp;try (with_reducible rfl))
   refine wpAnyH_ready (rs:=[11]) (by kernel_rfl) (by simp) ?_;refine AllReadyH.cons rfl (fun K hK=>?_) AllReadyH.nil;go_simp;refine hK.out _ _ (hS4.alloc hS4.size _) (fun _=>?_);clear hK K;refine wpAnyH_ready (rs:=[12]) (by kernel_rfl) (by simp) ?_;refine AllReadyH.cons rfl (fun K hK=>?_) AllReadyH.nil;refine step_append_own rfl (.tmp 13) (.tmp 24) 54 rfl w0.heap.size 73 i0 _ 5 56 Tryz.underlying54 hi hz0 hz1 hz2 rfl (by decide) _ _ _ (by rfl) (own_below oO4 ((Below.refl _ _).alloc (Nat.le_refl _) _)) ⟨w4.heap.size,0,none⟩ 1 1 [.string o,.int .i64 ty,.int .i64 1,.int .i64 tt,.string x] (by rfl) rfl (cell_newV _ _ _) (by intro u hu;simp at hu;rcases hu with rfl|rfl|rfl|rfl|rfl<;>rfl) (by unfold maxLen;omega) (by omega) (by have:=hS4.size;simp;omega) ?_;intro va wa hown' hgrow _;rw [HT.out] at hown';have b4:Below w0.heap.size w0 wa:=(hS4.alloc hS4.size _).grown hgrow (by have:=hS4.size;simp;omega) (fun k hk=>(oO4.lt k hk).1);refine hK.out _ _ b4 (fun _=>?_);clear hK K hgrow oO oO4 hHeld hS4;refine wpAnyH_take (i:=13) (v:=?_) rfl (by kernel_rfl) (by kernel_rfl) (by kernel_rfl) (fun _ _ _ h=>h) (Or.inl ⟨by rfl,?_⟩) (by assumption) ?_;rotate_left 1
   ·(intro W hSW;obtain⟨z0,z1,z2,z3⟩:=hbox W hSW;go_simp;try (with_reducible rfl))
   refine wpAnyH_done (by kernel_rfl) ?_ _;obtain⟨z0,z1,z2,z3⟩:=hbox _ b4;go_wp2;go_roundw
   case rel=>exact⟨k+1,by omega,by go_num,hown',fun h=>by omega,b4⟩
   case measure=>simp [intOf];omega
  ·have hkl:k=da.length:=by omega
   subst hkl;have i2:(da.length:Int)<=(da.length:Int):=by omega
   clear hall hbox hget hcld;rw [List.take_of_length_le (by omega)] at oO;go_wp2;go_ret;refine⟨_,rfl,?_,fun h=>hnil (by rw [h];rfl),Nm.below_two hB0 hbel⟩;rw [hrl];exact own_base oO hB0.size
theorem own_some{w:World}{B e s n:Nat}{v:Value}{xs:List Value}(h:w.ownsRow B e s v n xs)(hn:0<n):∃ g c,v=.slice (some ⟨g,0,none⟩) n c:=by
 rcases h.2 with⟨_,h0⟩|⟨g,c,_,e,_⟩
 ·omega
 ·exact⟨g,c,e⟩
theorem run_append_none{P:Program}{t ty e:TypeId}{i:TypeInfo}(ht:P.underlying t=some (.slice e))(hi:P.info? e=some i)(ad:Option Addr)(n c:Nat)(hn:n<=c)(w:World):
 (Builtin.append_ #[t,t] ty #[.slice ad n c,.slice none 0 0]).run P w=.ok (.slice ad n c) w:=by
 have hs:Src P i.size t (.slice none 0 0) 0 [] w:=Src.ofNil w ht 0
 cases ad with
 |none=>simp [Builtin.append_,run_underlying ht,sizeOf,typeInfo,hi,hs.len,hn,hs.cells]
 |some a=>simp [Builtin.append_,run_underlying ht,sizeOf,typeInfo,hi,hs.len,hn,hs.cells,storeCells]
theorem wpList_append_none{P:Program}{ops:Array Oper}{rest:List Oper}{o:Oper}{a:Act}{Q:Exit->Act->World->Prop}(w:World)(hgd:o.guard=none)(s x:Operand)(t:TypeId)
 (ho:o.op=.call {callee:=.builtin .append,args:=#[s,x],argTypes:=#[t,t]}) (e:TypeId) (i:TypeInfo) (ht:P.underlying t=some (.slice e)) (hi:P.info? e=some i) (ad:Option Addr) (n c:Nat)
 (hs:a.eval s=.slice ad n c) (hx:a.eval x=.slice none 0 0) (hn:n<=c) (h:wpList P ops Q rest (a.put o.dst (.slice ad n c)) w):wpList P ops Q (o::rest) a w:=by
 refine wpList_plain hgd fun K hK=>?_
 have hr:=run_append_none (P:=P) (ty:=o.type) ht hi ad n c hn w;unfold Oper.wp execOp;simp only [ho,resolve,invoke,builtin,Sem.run_bind,Sem.run_pure,Result.andThen_ok,List.map_toArray,List.map_cons,List.map_nil,hs,hx,hr];exact hK _ _ h
set_option maxRecDepth 100000 in
set_option maxHeartbeats 3200000 in
theorem implZoneRecords_any(o:ByteArray)(v:Value)(ps:List Zp)(w:World)(h:ZRow w v ps)(hs:zsum ps<=1048576)(hf:∀ p∈ps,∀ x∈p.1.da,x.size<=1048576):
 Calls Tryz.prog 36 #[.agg #[.string o,v]] w fun e w'=>∃ u,e=.returned u∧w'.ownsRow w.heap.size 73 5 u (zoneRecs ps).length (rvVs (zoneRecs ps))∧Below w.heap.size w w':=by
 obtain⟨i0,hi,hz0,hz1,hz2⟩:=info_parts Tryz.infoRri
 have hpl:∀ p∈ps,p.1.own.size<=1048576∧p.1.da.length<=1048576:=by
  intro p hp;have:=zsum_mem ps p hp;unfold zs1 at this;omega
 obtain⟨RS,hRS⟩:∃ R,R=zoneRecs ps:=⟨_,rfl⟩;rw [<- hRS];unfold zoneRecs at hRS;have hB0:=(Below.refl w.heap.size w).alloc (Nat.le_refl _) (.cells #[.string o,v] 31);have hbx:=blk_new w #[.string o,v] 31;have hrowW:=h;have hsm:=isSmall_any o v ps _ (h.below hB0) (fun p hp=>(hpl p hp).2);obtain⟨⟨_,a,cap,rfl,hcap,hmx,_⟩,_⟩:=h;unfold maxLen at hmx
 by_cases hsmall:ps.length<=500∧dsum ps<=500
 ·rw [decide_eq_true hsmall] at hsm;have hRS2:RS=recsAll ps:=by rw [hRS,if_neg (by omega)]
  obtain⟨hs1,hs2⟩:=hsmall;have hs1':(ps.length:Int)<=500:=by omega
  clear hRS;have hdd:∀ k,dsum (ps.take k)<=500:=fun k=>by have:=dsum_take_le ps k;omega
  have hrl:=fun k=>recsAll_len (ps.take k)
  have hstep:=fun(k:Nat) (x:Zp) (h:ps[k]? =some x)=>recsAll_step h
  have hdst:=fun(k:Nat) (x:Zp) (h:ps[k]? =some x)=>dsum_step ps k x h
  go_enter Tryz.func36,Tryz.ntmps36;go_wp2_with (go_at_call 64;refine hsm.mono ?_;rintro e w1 ⟨rfl,hb1⟩;have q1:w1.cell? ⟨w.heap.size,1,none⟩=some (.slice a ps.length cap):=(blk_cell (blk_below hbx hb1) 1).trans rfl)
  have hB1:=Nm.below_two hB0 hb1;clear hsm hB0 hbx hb1 q1
  go_loopw [3,12] (fun vo vi wr=>∃ k:Nat,k<=ps.length∧vi=.int .i64 k∧wr.ownsRow w.heap.size 73 5 vo (recsAll (ps.take k)).length (rvVs (recsAll (ps.take k)))∧Below w.heap.size w wr) (fun _ vi _=>ps.length-(intOf vi).toNat)
  case atStart=>exact⟨0,Nat.zero_le _,rfl,⟨rfl,.inl ⟨rfl,rfl⟩⟩,hB1⟩
  case round=>
   obtain⟨k,hk,rfl,oO,hbel⟩:=hrel;clear hB1
   by_cases hlt:k<ps.length
   ·obtain⟨x,hxk⟩:∃ x,ps[k]? =some x:=⟨_,List.getElem?_eq_getElem hlt⟩;obtain⟨⟨_,a',cap',hv,_,_,hc⟩,hsr⟩:=hrowW.below hbel;simp only [Value.slice.injEq] at hv;obtain⟨rfl,_,rfl⟩:=hv;obtain⟨b,off,rfl,hcell⟩:=hc (by omega);obtain⟨c0,c1,c2,c3⟩:=zp_cells hcell hxk;have hmem:=List.mem_of_getElem? hxk;obtain⟨dva,dvc,hdv⟩:∃ a c,x.2=.slice a x.1.da.length c:=by obtain⟨a,c,e,_⟩:=hsr x hmem;exact⟨a,c,e⟩
    have hBa:=(Below.refl wr.heap.size wr).alloc (Nat.le_refl _) (.cells #[.string x.1.own,.int .i64 x.1.ty,.int .i64 x.1.tt,x.2] 58);have hone:=records_any x.1 x.2 _ ((hsr x hmem).below hBa) (hpl x hmem).2 (hpl x hmem).1 (hf x hmem);have hbl:Below w.heap.size w (wr.alloc (.cells #[.string x.1.own,.int .i64 x.1.ty,.int .i64 x.1.tt,x.2] 58)):=hbel.alloc hbel.size _;have oO1:=own_below oO hBa;have hsp:=hstep k x hxk;have hld:=hdst k x hxk;have hd1:=hdd (k+1);have hl0:=hrl k;have hl1:=recsOf_len x.1;have i1:(0:Int)<=(k:Int):=by omega
    have i2:(k:Int)<(ps.length:Int):=by omega
    have hlen:(recsAll (ps.take k)).length+(recsOf x.1).length<=500:=by omega
    have HT:Hid (rvVs (recsAll (ps.take k))++rvVs (recsOf x.1)=rvVs (recsAll (ps.take (k+1)))):=by show _=_;rw [hsp,rvVs_app]
    have HL:Hid ((recsAll (ps.take k)).length+(recsOf x.1).length=(recsAll (ps.take (k+1))).length):=by show _=_;rw [hsp,List.length_append]
    have h1c:=rvs_one (recsOf x.1);have hrlen:=rvVs_len (recsOf x.1);have hemp:x.1.da=[]->recsOf x.1=[]:=by intro h;simp [recsOf,h]
    clear hcell hc hsr hstep hdst hrl hdd hsp hld hl0 hmem hxk;generalize recsAll (ps.take k)=R0 at*;generalize hR1:recsAll (ps.take (k+1))=R1 at*;generalize recsOf x.1=R2 at*
    by_cases hda:x.1.da=[]
    ·have hR2:=hemp hda;subst hR2;have hone2:Calls Tryz.prog 65 #[.agg #[.string x.1.own,.int .i64 x.1.ty,.int .i64 x.1.tt,x.2]] (wr.alloc (.cells #[.string x.1.own,.int .i64 x.1.ty,.int .i64 x.1.tt,x.2] 58)) fun e w'=>e=.returned (.slice none 0 0)∧Below (wr.alloc (.cells #[.string x.1.own,.int .i64 x.1.ty,.int .i64 x.1.tt,x.2] 58)).heap.size (wr.alloc (.cells #[.string x.1.own,.int .i64 x.1.ty,.int .i64 x.1.tt,x.2] 58)) w':=hone.mono (by rintro e w' ⟨u,rfl,_,hn,hb⟩;exact⟨by rw [hn hda],hb⟩)
     clear hone hda hemp;obtain⟨⟨o1,ty,tt,da⟩,dv⟩:=x;simp only at c0 c1 c2 c3 hone2 hbl oO1 hdv
     subst hdv;obtain⟨oa,oc,hov⟩:=own_sl oO;subst hov
     have hoc:R0.length<=oc:=by
      rcases oO.2 with⟨h0,h1⟩|⟨g,c,_,h0,_,_,h1,_⟩
      ·rw [h1];exact Nat.zero_le _
      ·simp only [Value.slice.injEq] at h0;omega
     go_wp2_with (first|(go_at_call 65;refine hone2.mono ?_;rintro e w2 ⟨rfl,hb2⟩;have oO2:=own_below oO1 hb2;have hbb:=Nm.below_two hbl hb2)|(at_builtin;refine wpList_append_none _ rfl (.tmp 16) (.tmp 18) 54 rfl 73 i0 Tryz.underlying54 hi oa R0.length oc rfl rfl hoc ?_))
     have eT:=HT.out;rw [show rvVs ([]:List Rr)=[] from rfl,List.append_nil] at eT;have ho9:=oO2;rw [eT] at ho9;have hL:=HL.out;simp at hL;go_roundw
     case rel=>exact⟨k+1,by omega,by go_num,by rw [hR1,<- hL];exact ho9,hbb⟩
     case measure=>simp [intOf];omega
    ·have hm:0<R2.length:=by
      rw [hl1]
      cases hq:x.1.da with
      |nil=>exact absurd hq hda
      |cons _ _=>simp
     clear hemp hda hl1;obtain⟨⟨o1,ty,tt,da⟩,dv⟩:=x;simp only at c0 c1 c2 c3 hone hbl oO1 hdv
     subst hdv;obtain⟨oa,oc,hov⟩:=own_sl oO;subst hov;go_wp2_with (first|(go_at_call 65;refine hone.mono ?_;rintro e w2 ⟨u,rfl,hu,_,hb2⟩;obtain⟨ug,uc,hg⟩:=own_some hu hm;subst hg;have oO2:=own_below oO1 hb2;have hbb:=Nm.below_two hbl hb2)|(at_builtin;refine wpList_append_own _ rfl (.tmp 16) (.tmp 18) 54 rfl w.heap.size 73 i0 _ 5 56 Tryz.underlying54 hi hz0 hz1 hz2 rfl (by decide) (.slice oa R0.length oc) R0.length (rvVs R0) rfl oO2 ⟨ug,0,none⟩ R2.length uc (rvVs R2) rfl hrlen (fun j y hy=>by rw [Nm.addr_add,Nat.zero_add,hu.cellAt j (by have:=(List.getElem?_eq_some_iff.1 hy).1;omega)];exact hy) h1c (by unfold maxLen;omega) (by omega) hbb.size ?_;intro va wa ho9 hg9 hnl9))
     rw [HT.out,HL.out] at ho9;have b9:Below w.heap.size w wa:=hbb.grown hg9 hbb.size (fun g hg=>(oO2.lt g hg).1);go_wp2;go_roundw
     case rel=>exact⟨k+1,by omega,by go_num,by rw [hR1];exact ho9,b9⟩
     case measure=>simp [intOf];omega
   ·have hkl:k=ps.length:=by omega
    subst hkl;have i2:(ps.length:Int)<=(ps.length:Int):=by omega
    rw [List.take_length,<- hRS2] at oO;clear hrowW hstep hdst hrl hdd hRS2 hpl hf;go_wp2;go_ret;exact⟨_,rfl,oO,hbel⟩
 ·rw [decide_eq_false hsmall] at hsm;obtain rfl:RS=[]:=by rw [hRS,if_pos (by omega)]
  clear hRS hrowW hsmall;go_enter Tryz.func36,Tryz.ntmps36;go_wp2_with (go_at_call 64;refine hsm.mono ?_;rintro e w1 ⟨rfl,hb1⟩)
  go_ret;exact⟨_,rfl,⟨rfl,.inl ⟨rfl,rfl⟩⟩,Nm.below_two hB0 hb1⟩
set_option maxRecDepth 100000 in
set_option maxHeartbeats 1600000 in
theorem zonePayload_any(o:ByteArray)(v:Value)(ps:List Zp)(w:World)(h:ZRow w v ps)(hs:zsum ps<=1048576)(ho:o.size<=1048576)(hz:zOK ps o=true)(hf:∀ p∈ps,p.1.own.size<=1048576∧∀ x∈p.1.da,x.size<=1048576):
 Calls Tryz.prog 20 #[.agg #[.string o,v]] w fun e w'=>e=.returned (.string ⟨(zonP o (zoneRecs ps)).toArray⟩)∧Below w.heap.size w w':=by
 obtain⟨z1,z2,z3⟩:=zon_small hz hs ho hf;obtain⟨a,cap,rfl⟩:∃ a c,v=.slice a ps.length c:=by obtain⟨⟨_,a,c,e,_⟩,_⟩:=h;exact⟨a,c,e⟩
 have kR:=blk_new w #[.string o,.slice a ps.length cap] 31;have hb:=(Below.refl w.heap.size w).alloc (Nat.le_refl _) (.cells #[.string o,.slice a ps.length cap] 31);have hr:=implZoneRecords_any o _ ps _ (h.below hb) hs (fun p hp=>(hf p hp).2);have hq:=fun V W (hV:CRow W V (zoneRecs ps).length 5 (rvVs (zoneRecs ps)))=>countOf_any V (zoneRecs ps) W hV z1
 have hp:=fun V W (hV:CRow W V (zoneRecs ps).length 5 (rvVs (zoneRecs ps)))=>payloadOf_any V (zoneRecs ps) W hV (fun r hr=>(zOK_rcf hz hf r hr).1) z1 z2
 obtain⟨T1,hT1⟩:∃ T:ByteArray,T=⟨(bigL (zoneRecs ps).length 2).toArray⟩:=⟨_,rfl⟩;obtain⟨T2,hT2⟩:∃ T:ByteArray,T=⟨(rcsP (zoneRecs ps)).toArray⟩:=⟨_,rfl⟩;have lo:o.data.toList.length=o.size:=by simp
 obtain⟨C1,q1,c1⟩:=sj_cat [90] _ ⟨#[90]⟩ T1 rfl hT1 (by rw [bigL_len];simp);obtain⟨C2,q2,c2⟩:=sj_cat _ _ C1 o c1 (ba_mk o).symm (by simp only [List.length_append,lo,bigL_len,List.length_cons,List.length_nil];omega);obtain⟨C3,q3,c3⟩:=sj_cat _ _ C2 T2 c2 hT2 (by simp only [List.length_append,lo,bigL_len,List.length_cons,List.length_nil];omega);have HE:Hid ((⟨(zonP o (zoneRecs ps)).toArray⟩:ByteArray)=C3):=by show _=_;rw [c3,zonP]
 rw [HE.out];rw [<- hT1] at hq;rw [<- hT2] at hp;clear HE c1 c2 c3 hT1 hT2 lo z3;go_enter Tryz.func20,Tryz.ntmps20;go_wp2_with fail
 refine hr.mono ?_;rintro e w1 ⟨u,rfl,hu,b1⟩;have kR1:=blk_below kR b1;have hb1:=Nm.below_two hb b1;have hu1:=CRow.of_owns hu;have hq1:=fun W (hW:Below w1.heap.size w1 W)=>hq u W (hu1.below hW)
 have hp1:=fun W (hW:Below w1.heap.size w1 W)=>hp u W (hu1.below hW)
 obtain⟨ua,uc,rfl⟩:=own_sl hu;clear hr hq hp kR hb b1 hu hu1;go_wp2;have kR:=kR1;have hb:=Below.refl w1.heap.size w1;clear kR1;obtain⟨X,hX⟩:∃ X,X=w1:=⟨_,rfl⟩;have hb:Below w1.heap.size w1 X:=by rw [hX];exact Below.refl _ _
 have kR:Blk X w.heap.size #[.string o,.slice a ps.length cap] 31:=by rw [hX];exact kR
 rw [<- hX];have HB:=Nm.hide hb1;clear hb1;clear hX;refine wp_region_last (S:=fun W=>Blk W w.heap.size #[.string o,.slice a ps.length cap] 31) (L:=1000) (by kernel_rfl) kR (fun hH=>?_);refine tkL (i:=0) (v:=?_) rfl ?_ ?_;rotate_left 1
 ·(intro W s1;have ss1:=(fun i=>blk_cell s1 i);go_simp;try (with_reducible rfl))
 refine tkL (i:=3) (v:=?_) rfl ?_ ?_;rotate_left 1
 ·(intro W s1;have ss1:=(fun i=>blk_cell s1 i);go_simp;try (with_reducible rfl))
 refine tkL (i:=4) (v:=?_) rfl ?_ ?_;rotate_left 1
 ·(intro W s1;have ss1:=(fun i=>blk_cell s1 i);go_simp;try (with_reducible rfl))
 refine tkL (i:=6) (v:=?_) rfl ?_ ?_;rotate_left 1
 ·(intro W s1;have ss1:=(fun i=>blk_cell s1 i);go_simp;try (with_reducible rfl))
 refine wpAnyL_one (i:=1) (by kernel_rfl) rfl (fun K hK'=>?_);go_simp;refine(hq1 _ (by first|with_reducible exact hb|exact hb.drew)).mono ?_;rintro e X1 ⟨rfl,b1⟩;have b2:Below (X).heap.size X X1:=by first|with_reducible exact b1|exact(Below.refl _ X).drew.trans b1
 have kR1:=blk_below kR b2;have hb1:=Nm.below_two hb b2;clear b1 b2 kR hb;go_wp2_with fail
 refine hK'.out _ _ kR1 (fun hH=>?_);clear hK' K;have kR:=kR1;have hb:=hb1;clear kR1 hb1;refine tkL (i:=2) (v:=?_) rfl ?_ ?_;rotate_left 1
 ·(intro W s1;have ss1:=(fun i=>blk_cell s1 i);go_simp;try (with_reducible rfl))
 refine tkL (i:=5) (v:=?_) rfl ?_ ?_;rotate_left 1
 ·(intro W s1;have ss1:=(fun i=>blk_cell s1 i);go_simp;try (with_reducible rfl))
 refine wpAnyL_one (i:=7) (by kernel_rfl) rfl (fun K hK'=>?_);go_simp;refine(hp1 _ (by first|with_reducible exact hb|exact hb.drew)).mono ?_;rintro e X2 ⟨rfl,b1⟩;have b2:Below (X1).heap.size X1 X2:=by first|with_reducible exact b1|exact(Below.refl _ X1).drew.trans b1
 have kR1:=blk_below kR b2;have hb1:=Nm.below_two hb b2;clear b1 b2 kR hb;go_wp2_with fail
 refine hK'.out _ _ kR1 (fun hH=>?_);clear hK' K;have kR:=kR1;have hb:=hb1;clear kR1 hb1;refine tkL (i:=8) (v:=?_) rfl ?_ ?_;rotate_left 1
 ·(intro W s1;have ss1:=(fun i=>blk_cell s1 i);go_simp;try (with_reducible rfl))
 refine tkL (i:=9) (v:=?_) rfl ?_ ?_;rotate_left 1
 ·(intro W s1;have ss1:=(fun i=>blk_cell s1 i);go_simp;try (with_reducible rfl))
 refine wpAnyL_done (by kernel_rfl) ?_;clear hH;go_simp;go_wp2;go_ret;exact⟨rfl,Nm.below_two HB.out hb⟩
end Go.Proofs.YtcihkbojmbfmmaaGreatDoor
