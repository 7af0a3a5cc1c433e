import Derived.Test.YtfmolgdfjklmpaaGreatJZrM
import Derived.Test.YtfmolgdfjklmpaaGreatJSls
import Derived.RegionTactic
import Derived.BigRegion
import Derived.Deep.RegionHeld3
import Derived.Deep.AppendSrc
import Derived.Maps.AppendAt
namespace Go.Proofs.YtfmolgdfjklmpaaGreat
open Go.RowKit
set_option linter.unusedVariables false
theorem Tryz.infoRri:(Tryz.prog.info? 33).map (fun i=>(i.zero,i.size,i.bytes))=some (some (.agg #[.string ByteArray.empty,.int .i64 0,.int .i64 0,.int .i64 0,.string ByteArray.empty]),5,56):=by kernel_rfl
set_option maxRecDepth 100000 in
set_option maxHeartbeats 1600000 in
theorem isSmall_any(o:ByteArray)(v:Value)(ps:List Zp)(w:World)(h:ZRow w v ps)(hd:∀ p∈ps,p.1.da.length<=1048576):
 Calls Tryz.prog 67 #[.agg #[.string o,v]] w fun e w'=>e=.returned (.bool (decide (ps.length<=500∧dsum ps<=500)))∧Below w.heap.size w w':=by
 have hB0:=(Below.refl w.heap.size w).alloc (Nat.le_refl _) (.cells #[.string o,v] 25);have hrowW:=h;obtain⟨⟨_,a,cap,rfl,hcap,hmx,_⟩,_⟩:=h;unfold maxLen at hmx;obtain⟨RB,hRB⟩:∃ b,b=decide (ps.length<=500∧dsum ps<=500):=⟨_,rfl⟩;rw [<- hRB]
 by_cases hbig:500<ps.length
 ·have hbig':(500:Int)<(ps.length:Int):=by omega
  obtain rfl:RB=false:=by rw [hRB];simp;omega
  clear hrowW hRB;go_enter Tryz.func67,Tryz.ntmps67;go_wp2;go_ret;exact⟨rfl,hB0⟩
 ·have hbig':(ps.length:Int)<=500:=by omega
  have HRB:=Nm.hide hRB;clear hRB;go_enter Tryz.func67,Tryz.ntmps67;go_wp2
  go_loopw [3,13] (fun t i wr=>∃ k:Nat,k<=ps.length∧i=.int .i64 k∧t=.int .i64 (dsum (ps.take k):Int)∧dsum (ps.take k)<=500∧Below w.heap.size w wr) (fun _ i _=>ps.length-(intOf i).toNat)
  case atStart=>exact⟨0,Nat.zero_le _,rfl,by simp [dsum],by simp [dsum],hB0⟩
  case round=>
   obtain⟨k,hk,rfl,rfl,hle,hbel⟩:=hrel
   by_cases hlt:k<ps.length
   ·obtain⟨x,hxk⟩:∃ x,ps[k]? =some x:=⟨_,List.getElem?_eq_getElem hlt⟩;obtain⟨⟨_,a',cap',hv,_,_,hc⟩,hsr⟩:=hrowW.below hbel;simp only [Value.slice.injEq] at hv;obtain⟨rfl,_,rfl⟩:=hv;obtain⟨b,off,rfl,hcell⟩:=hc (by omega);obtain⟨c0,c1,c2,c3⟩:=zp_cells hcell hxk;have hmem:=List.mem_of_getElem? hxk;obtain⟨da',dc,hdv,_⟩:=hsr x hmem;have HS:=dsum_step ps k x hxk;have hs1:=dsum_take_le ps (k+1);have hdl:=hd x hmem;have i1:(0:Int)<=(k:Int):=by omega
    have i2:(k:Int)<(ps.length:Int):=by omega
    have hB1:=hbel.alloc hbel.size (.cells #[.string x.1.own,.int .i64 x.1.ty,.int .i64 x.1.tt,x.2] 53);have hfin:((dsum (ps.take (k+1)):Nat):Int)=(dsum (ps.take k):Int)+(x.1.da.length:Int):=by omega
    have hbd:(dsum (ps.take k):Int)+(x.1.da.length:Int)<=2000000:=by omega
    have hno:500<dsum (ps.take (k+1))->RB=false:=by
     intro hx;rw [HRB.out];simp;omega
    clear hcell hc hsr hrowW hmem hxk;obtain⟨⟨o1,ty,tt,da⟩,dv⟩:=x;simp only at c0 c1 c2 c3 hdv hfin hbd hB1
    subst hdv;generalize hz:dsum (ps.take (k+1))=z1 at*;generalize dsum (ps.take k)=z0 at*
    by_cases hgt:500<z1
    ·obtain rfl:RB=false:=hno hgt;have hgt':(500:Int)<(z0:Int)+(da.length:Int):=by omega
     clear HRB hno;go_wp2;go_ret;exact⟨rfl,hB1⟩
    ·have hgt':(z0:Int)+(da.length:Int)<=500:=by omega
     clear hno;go_wp2;go_roundw
     case rel=>exact⟨k+1,by omega,by go_num,by rw [hz,hfin],by omega,hB1⟩
     case measure=>simp [intOf];omega
   ·have hkl:k=ps.length:=by omega
    subst hkl;rw [List.take_length] at hle;obtain rfl:RB=true:=by rw [HRB.out];simp;omega
    have i2:(ps.length:Int)<=(ps.length:Int):=by omega
    clear hrowW HRB;go_wp2;go_ret;exact⟨rfl,hbel⟩
set_option maxRecDepth 100000 in
set_option maxHeartbeats 3200000 in
theorem records_any(s:Sz)(dv:Value)(w:World)(h:Nm.SRow w dv s.da)(hl:s.da.length<=1048576)(ho:s.own.size<=1048576)(hx:∀ x∈s.da,x.size<=1048576):
 Calls Tryz.prog 68 #[.agg #[.string s.own,.int .i64 s.ty,.int .i64 s.tt,dv]] w fun e w'=>∃ u,e=.returned u∧w'.ownsRow w.heap.size 33 5 u (recsOf s).length (rvVs (recsOf s))∧(s.da=[]->u=.slice none 0 0)∧Below w.heap.size w w':=by
 obtain⟨i0,hi,hz0,hz1,hz2⟩:=info_parts Tryz.infoRri;have hrl:=recsOf_len s;have hget:=fun(k:Nat) (d:ByteArray) (h:s.da[k]? =some d)=>recsOf_get (s:=s) h
 generalize recsOf s=rs at*;obtain⟨o,ty,tt,da⟩:=s;simp only at*
 have hclo:=fun W=>clone_any o W (by omega)
 have hcld:=fun(x:ByteArray) (hm:x∈da) W=>clone_any x W (by have:=hx x hm;omega)
 have hB0:=(Below.refl w.heap.size w).alloc (Nat.le_refl _) (.cells #[.string o,.int .i64 ty,.int .i64 tt,dv] 53);have hrow:=h.below hB0;have hbx:=blk_new w #[.string o,.int .i64 ty,.int .i64 tt,dv] 53;obtain⟨a,cap,rfl,hcap,hmx,hnl,hc⟩:=hrow;clear h hx;unfold maxLen at hmx;go_enter Tryz.func68,Tryz.ntmps68;go_wp2;generalize w.alloc (.cells #[.string o,.int .i64 ty,.int .i64 tt,.slice a da.length cap] 53)=w0 at*
 have hall:∀ W,Below w0.heap.size w0 W->∀ (k:Nat) (x:ByteArray),da[k]? =some x->∃ b off,a=some ⟨b,off,none⟩∧W.cell? ⟨b,off+k,none⟩=some (.string x):=by
  intro W hW k x hx;obtain⟨b,off,rfl,hcell⟩:=hc (by intro h;rw [h] at hx;simp at hx);have h0:=hcell k x hx;exact⟨b,off,rfl,(hW.cell (World.block_lt_of_cell? w0 _ h0)).trans h0⟩
 have hbox:∀ W,Below w0.heap.size w0 W->W.cell? ⟨w.heap.size,0,none⟩=some (.string o)∧W.cell? ⟨w.heap.size,1,none⟩=some (.int .i64 ty)∧W.cell? ⟨w.heap.size,2,none⟩=some (.int .i64 tt)∧W.cell? ⟨w.heap.size,3,none⟩=some (.slice a da.length cap):=by
  intro W hW;have hb:=blk_below hbx hW;exact⟨(blk_cell hb 0).trans rfl,(blk_cell hb 1).trans rfl,(blk_cell hb 2).trans rfl,(blk_cell hb 3).trans rfl⟩
 clear hc hbx
 go_loopw [3,9] (fun vo vi wr=>∃ k:Nat,k<=da.length∧vi=.int .i64 k∧wr.ownsRow w0.heap.size 33 5 vo k (rvVs (rs.take k))∧(k=0->vo=.slice none 0 0)∧Below w0.heap.size w0 wr) (fun _ vi _=>da.length-(intOf vi).toNat)
 case atStart=>exact⟨0,Nat.zero_le _,rfl,⟨rfl,.inl ⟨rfl,rfl⟩⟩,fun _=>rfl,Below.refl _ _⟩
 case round=>
  obtain⟨k,hk,rfl,oO,hnil,hbel⟩:=hrel
  by_cases hlt:k<da.length
  ·obtain⟨x,hx⟩:∃ x,da[k]? =some x:=⟨_,List.getElem?_eq_getElem hlt⟩;obtain⟨b,off,rfl,hcc⟩:=hall wr hbel k x hx;have hcl2:=fun W=>hcld x (List.mem_of_getElem? hx) W
   have HT:Hid (rvVs (rs.take k)++[.string o,.int .i64 ty,.int .i64 1,.int .i64 tt,.string x]=rvVs (rs.take (k+1))):=by
    show _=_
    rw [hget k x hx,rvVs_app];rfl
   have i1:(0:Int)<=(k:Int):=by omega
   have i2:(k:Int)<(da.length:Int):=by omega
   clear hall hget hx hcld hnil;go_wp2_with fail
   refine wp_region_held_drew (S:=fun W=>Below w0.heap.size w0 W) (by kernel_rfl) hbel.drew (fun hHeld=>?_);refine wpAnyH_take (i:=0) (v:=?_) rfl (by kernel_rfl) (by kernel_rfl) (by kernel_rfl) (fun _ _ _ h=>h) (Or.inl ⟨by rfl,?_⟩) (by assumption) ?_;rotate_left 1
   ·(intro W hSW;obtain⟨z0,z1,z2,z3⟩:=hbox W hSW;go_simp;try (with_reducible rfl))
   refine wpAnyH_take (i:=1) (v:=?_) rfl (by kernel_rfl) (by kernel_rfl) (by kernel_rfl) (fun _ _ _ h=>h) (Or.inl ⟨by rfl,?_⟩) (by assumption) ?_;rotate_left 1
   ·(intro W hSW;obtain⟨z0,z1,z2,z3⟩:=hbox W hSW;go_simp;try (with_reducible rfl))
   refine wpAnyH_take (i:=2) (v:=?_) rfl (by kernel_rfl) (by kernel_rfl) (by kernel_rfl) (fun _ _ _ h=>h) (Or.inl ⟨by rfl,?_⟩) (by assumption) ?_;rotate_left 1
   ·(intro W hSW;obtain⟨z0,z1,z2,z3⟩:=hbox W hSW;go_simp;try (with_reducible rfl))
   refine wpAnyH_take (i:=4) (v:=?_) rfl (by kernel_rfl) (by kernel_rfl) (by kernel_rfl) (fun _ _ _ h=>h) (Or.inl ⟨by rfl,?_⟩) (by assumption) ?_;rotate_left 1
   ·(intro W hSW;obtain⟨z0,z1,z2,z3⟩:=hbox W hSW;go_simp;try (with_reducible rfl))
   refine wpAnyH_take (i:=5) (v:=?_) rfl (by kernel_rfl) (by kernel_rfl) (by kernel_rfl) (fun _ _ _ h=>h) (Or.inl ⟨by rfl,?_⟩) (by assumption) ?_;rotate_left 1
   ·(intro W hSW;obtain⟨z0,z1,z2,z3⟩:=hbox W hSW;go_simp;try (with_reducible rfl))
   refine wpAnyH_take (i:=6) (v:=?_) rfl (by kernel_rfl) (by kernel_rfl) (by kernel_rfl) (fun _ _ _ h=>h) (Or.inl ⟨by rfl,?_⟩) (by assumption) ?_;rotate_left 1
   ·(intro W hSW;obtain⟨z0,z1,z2,z3⟩:=hbox W hSW;go_simp;try (with_reducible rfl))
   refine wpAnyH_take (i:=7) (v:=?_) rfl (by kernel_rfl) (by kernel_rfl) (by kernel_rfl) (fun _ _ _ h=>h) (Or.inl ⟨by rfl,?_⟩) (by assumption) ?_;rotate_left 1
   ·(intro W hSW;obtain⟨z0,z1,z2,z3⟩:=hbox W hSW;go_simp;try (with_reducible rfl))
   refine wpAnyH_take (i:=8) (v:=?_) rfl (by kernel_rfl) (by kernel_rfl) (by kernel_rfl) (fun _ _ _ h=>h) (Or.inl ⟨by rfl,?_⟩) (by assumption) ?_;rotate_left 1
   ·(intro W hSW;obtain⟨z0,z1,z2,z3⟩:=hbox W hSW;go_simp;try (with_reducible rfl))
   refine wpAnyH_ready (rs:=[3]) (by kernel_rfl) (by simp) ?_;refine AllReadyH.cons rfl (fun K hK=>?_) AllReadyH.nil;go_simp;refine(hclo _).mono ?_;rintro e w3 ⟨rfl,hb3⟩;have hS3:Below w0.heap.size w0 w3:=Below.trans hHeld (hb3.mono hHeld.size);have oO3:=own_below (own_below oO (Below.refl _ _).drew) hb3;go_wp2_with fail
   refine hK.out _ _ hS3 (fun _=>?_);clear hK K;refine wpAnyH_ready (rs:=[9]) (by kernel_rfl) (by simp) ?_;refine AllReadyH.cons rfl (fun K hK=>?_) AllReadyH.nil;go_simp;refine(hcl2 _).mono ?_;rintro e w4 ⟨rfl,hb4⟩;have hS4:Below w0.heap.size w0 w4:=Below.trans hS3 (hb4.mono hS3.size);have oO4:=own_below oO3 hb4;go_wp2_with fail
   refine hK.out _ _ hS4 (fun _=>?_);clear hK K oO3 hS3;refine wpAnyH_take (i:=10) (v:=?_) rfl (by kernel_rfl) (by kernel_rfl) (by kernel_rfl) (fun _ _ _ h=>h) (Or.inl ⟨by rfl,?_⟩) (by assumption) ?_;rotate_left 1
   ·(intro W hSW;obtain⟨z0,z1,z2,z3⟩:=hbox W hSW;go_simp;try (with_reducible rfl))
   refine wpAnyH_ready (rs:=[11]) (by kernel_rfl) (by simp) ?_;refine AllReadyH.cons rfl (fun K hK=>?_) AllReadyH.nil;go_simp;refine hK.out _ _ (hS4.alloc hS4.size _) (fun _=>?_);clear hK K;refine wpAnyH_ready (rs:=[12]) (by kernel_rfl) (by simp) ?_;refine AllReadyH.cons rfl (fun K hK=>?_) AllReadyH.nil;refine step_append_own rfl (.tmp 13) (.tmp 24) 30 rfl w0.heap.size 33 i0 _ 5 56 Tryz.underlying30 hi hz0 hz1 hz2 rfl (by decide) _ _ _ (by rfl) (own_below oO4 ((Below.refl _ _).alloc (Nat.le_refl _) _)) ⟨w4.heap.size,0,none⟩ 1 1 [.string o,.int .i64 ty,.int .i64 1,.int .i64 tt,.string x] (by rfl) rfl (cell_newV _ _ _) (by intro u hu;simp at hu;rcases hu with rfl|rfl|rfl|rfl|rfl<;>rfl) (by unfold maxLen;omega) (by omega) (by have:=hS4.size;simp;omega) ?_;intro va wa hown' hgrow _;rw [HT.out] at hown';have b4:Below w0.heap.size w0 wa:=(hS4.alloc hS4.size _).grown hgrow (by have:=hS4.size;simp;omega) (fun k hk=>(oO4.lt k hk).1);refine hK.out _ _ b4 (fun _=>?_);clear hK K hgrow oO oO4 hHeld hS4;refine wpAnyH_take (i:=13) (v:=?_) rfl (by kernel_rfl) (by kernel_rfl) (by kernel_rfl) (fun _ _ _ h=>h) (Or.inl ⟨by rfl,?_⟩) (by assumption) ?_;rotate_left 1
   ·(intro W hSW;obtain⟨z0,z1,z2,z3⟩:=hbox W hSW;go_simp;try (with_reducible rfl))
   refine wpAnyH_done (by kernel_rfl) ?_ _;obtain⟨z0,z1,z2,z3⟩:=hbox _ b4;go_wp2;go_roundw
   case rel=>exact⟨k+1,by omega,by go_num,hown',fun h=>by omega,b4⟩
   case measure=>simp [intOf];omega
  ·have hkl:k=da.length:=by omega
   subst hkl;have i2:(da.length:Int)<=(da.length:Int):=by omega
   clear hall hbox hget hcld;rw [List.take_of_length_le (by omega)] at oO;go_wp2;go_ret;refine⟨_,rfl,?_,fun h=>hnil (by rw [h];rfl),Nm.below_two hB0 hbel⟩;rw [hrl];exact own_base oO hB0.size
theorem own_some{w:World}{B e s n:Nat}{v:Value}{xs:List Value}(h:w.ownsRow B e s v n xs)(hn:0<n):∃ g c,v=.slice (some ⟨g,0,none⟩) n c:=by
 rcases h.2 with⟨_,h0⟩|⟨g,c,_,e,_⟩
 ·omega
 ·exact⟨g,c,e⟩
theorem run_append_none{P:Program}{t ty e:TypeId}{i:TypeInfo}(ht:P.underlying t=some (.slice e))(hi:P.info? e=some i)(ad:Option Addr)(n c:Nat)(hn:n<=c)(w:World):
 (Builtin.append_ #[t,t] ty #[.slice ad n c,.slice none 0 0]).run P w=.ok (.slice ad n c) w:=by
 have hs:Go.Src P i.size t (.slice none 0 0) 0 [] w:=Go.Src.ofNil w ht 0
 cases ad with
 |none=>simp [Builtin.append_,run_underlying ht,sizeOf,typeInfo,hi,hs.len,hn,hs.cells]
 |some a=>simp [Builtin.append_,run_underlying ht,sizeOf,typeInfo,hi,hs.len,hn,hs.cells,storeCells]
theorem wpList_append_none{P:Program}{ops:Array Oper}{rest:List Oper}{o:Oper}{a:Act}{Q:Exit->Act->World->Prop}(w:World)(hgd:o.guard=none)(s x:Operand)(t:TypeId)
 (ho:o.op=.call {callee:=.builtin .append,args:=#[s,x],argTypes:=#[t,t]}) (e:TypeId) (i:TypeInfo) (ht:P.underlying t=some (.slice e)) (hi:P.info? e=some i) (ad:Option Addr) (n c:Nat)
 (hs:a.eval s=.slice ad n c) (hx:a.eval x=.slice none 0 0) (hn:n<=c) (h:wpList P ops Q rest (a.put o.dst (.slice ad n c)) w):wpList P ops Q (o::rest) a w:=by
 refine wpList_plain hgd fun K hK=>?_
 have hr:=run_append_none (P:=P) (ty:=o.type) ht hi ad n c hn w;unfold Oper.wp execOp;simp only [ho,resolve,invoke,builtin,Sem.run_bind,Sem.run_pure,Result.andThen_ok,List.map_toArray,List.map_cons,List.map_nil,hs,hx,hr];exact hK _ _ h
set_option maxRecDepth 100000 in
set_option maxHeartbeats 3200000 in
theorem implZoneRecords_any(o:ByteArray)(v:Value)(ps:List Zp)(w:World)(h:ZRow w v ps)(hs:zsum ps<=1048576)(hf:∀ p∈ps,∀ x∈p.1.da,x.size<=1048576):
 Calls Tryz.prog 40 #[.agg #[.string o,v]] w fun e w'=>∃ u,e=.returned u∧w'.ownsRow w.heap.size 33 5 u (zoneRecs ps).length (rvVs (zoneRecs ps))∧Below w.heap.size w w':=by
 obtain⟨i0,hi,hz0,hz1,hz2⟩:=info_parts Tryz.infoRri
 have hpl:∀ p∈ps,p.1.own.size<=1048576∧p.1.da.length<=1048576:=by
  intro p hp;have:=zsum_mem ps p hp;unfold zs1 at this;omega
 obtain⟨RS,hRS⟩:∃ R,R=zoneRecs ps:=⟨_,rfl⟩;rw [<- hRS];unfold zoneRecs at hRS;have hB0:=(Below.refl w.heap.size w).alloc (Nat.le_refl _) (.cells #[.string o,v] 25);have hbx:=blk_new w #[.string o,v] 25;have hrowW:=h;have hsm:=isSmall_any o v ps _ (h.below hB0) (fun p hp=>(hpl p hp).2);obtain⟨⟨_,a,cap,rfl,hcap,hmx,_⟩,_⟩:=h;unfold maxLen at hmx
 by_cases hsmall:ps.length<=500∧dsum ps<=500
 ·rw [decide_eq_true hsmall] at hsm;have hRS2:RS=recsAll ps:=by rw [hRS,if_neg (by omega)]
  obtain⟨hs1,hs2⟩:=hsmall;have hs1':(ps.length:Int)<=500:=by omega
  clear hRS;have hdd:∀ k,dsum (ps.take k)<=500:=fun k=>by have:=dsum_take_le ps k;omega
  have hrl:=fun k=>recsAll_len (ps.take k)
  have hstep:=fun(k:Nat) (x:Zp) (h:ps[k]? =some x)=>recsAll_step h
  have hdst:=fun(k:Nat) (x:Zp) (h:ps[k]? =some x)=>dsum_step ps k x h
  go_enter Tryz.func40,Tryz.ntmps40;go_wp2_with (go_at_call 67;refine hsm.mono ?_;rintro e w1 ⟨rfl,hb1⟩;have q1:w1.cell? ⟨w.heap.size,1,none⟩=some (.slice a ps.length cap):=(blk_cell (blk_below hbx hb1) 1).trans rfl)
  have hB1:=Nm.below_two hB0 hb1;clear hsm hB0 hbx hb1 q1
  go_loopw [3,12] (fun vo vi wr=>∃ k:Nat,k<=ps.length∧vi=.int .i64 k∧wr.ownsRow w.heap.size 33 5 vo (recsAll (ps.take k)).length (rvVs (recsAll (ps.take k)))∧Below w.heap.size w wr) (fun _ vi _=>ps.length-(intOf vi).toNat)
  case atStart=>exact⟨0,Nat.zero_le _,rfl,⟨rfl,.inl ⟨rfl,rfl⟩⟩,hB1⟩
  case round=>
   obtain⟨k,hk,rfl,oO,hbel⟩:=hrel;clear hB1
   by_cases hlt:k<ps.length
   ·obtain⟨x,hxk⟩:∃ x,ps[k]? =some x:=⟨_,List.getElem?_eq_getElem hlt⟩;obtain⟨⟨_,a',cap',hv,_,_,hc⟩,hsr⟩:=hrowW.below hbel;simp only [Value.slice.injEq] at hv;obtain⟨rfl,_,rfl⟩:=hv;obtain⟨b,off,rfl,hcell⟩:=hc (by omega);obtain⟨c0,c1,c2,c3⟩:=zp_cells hcell hxk;have hmem:=List.mem_of_getElem? hxk;obtain⟨dva,dvc,hdv⟩:∃ a c,x.2=.slice a x.1.da.length c:=by obtain⟨a,c,e,_⟩:=hsr x hmem;exact⟨a,c,e⟩
    have hBa:=(Below.refl wr.heap.size wr).alloc (Nat.le_refl _) (.cells #[.string x.1.own,.int .i64 x.1.ty,.int .i64 x.1.tt,x.2] 53);have hone:=records_any x.1 x.2 _ ((hsr x hmem).below hBa) (hpl x hmem).2 (hpl x hmem).1 (hf x hmem);have hbl:Below w.heap.size w (wr.alloc (.cells #[.string x.1.own,.int .i64 x.1.ty,.int .i64 x.1.tt,x.2] 53)):=hbel.alloc hbel.size _;have oO1:=own_below oO hBa;have hsp:=hstep k x hxk;have hld:=hdst k x hxk;have hd1:=hdd (k+1);have hl0:=hrl k;have hl1:=recsOf_len x.1;have i1:(0:Int)<=(k:Int):=by omega
    have i2:(k:Int)<(ps.length:Int):=by omega
    have hlen:(recsAll (ps.take k)).length+(recsOf x.1).length<=500:=by omega
    have HT:Hid (rvVs (recsAll (ps.take k))++rvVs (recsOf x.1)=rvVs (recsAll (ps.take (k+1)))):=by show _=_;rw [hsp,rvVs_app]
    have HL:Hid ((recsAll (ps.take k)).length+(recsOf x.1).length=(recsAll (ps.take (k+1))).length):=by show _=_;rw [hsp,List.length_append]
    have h1c:=rvs_one (recsOf x.1);have hrlen:=rvVs_len (recsOf x.1);have hemp:x.1.da=[]->recsOf x.1=[]:=by intro h;simp [recsOf,h]
    clear hcell hc hsr hstep hdst hrl hdd hsp hld hl0 hmem hxk;generalize recsAll (ps.take k)=R0 at*;generalize hR1:recsAll (ps.take (k+1))=R1 at*;generalize recsOf x.1=R2 at*
    by_cases hda:x.1.da=[]
    ·have hR2:=hemp hda;subst hR2;have hone2:Calls Tryz.prog 68 #[.agg #[.string x.1.own,.int .i64 x.1.ty,.int .i64 x.1.tt,x.2]] (wr.alloc (.cells #[.string x.1.own,.int .i64 x.1.ty,.int .i64 x.1.tt,x.2] 53)) fun e w'=>e=.returned (.slice none 0 0)∧Below (wr.alloc (.cells #[.string x.1.own,.int .i64 x.1.ty,.int .i64 x.1.tt,x.2] 53)).heap.size (wr.alloc (.cells #[.string x.1.own,.int .i64 x.1.ty,.int .i64 x.1.tt,x.2] 53)) w':=hone.mono (by rintro e w' ⟨u,rfl,_,hn,hb⟩;exact⟨by rw [hn hda],hb⟩)
     clear hone hda hemp;obtain⟨⟨o1,ty,tt,da⟩,dv⟩:=x;simp only at c0 c1 c2 c3 hone2 hbl oO1 hdv
     subst hdv;obtain⟨oa,oc,hov⟩:=own_sl oO;subst hov
     have hoc:R0.length<=oc:=by
      rcases oO.2 with⟨h0,h1⟩|⟨g,c,_,h0,_,_,h1,_⟩
      ·rw [h1];exact Nat.zero_le _
      ·simp only [Value.slice.injEq] at h0;omega
     go_wp2_with (first|(go_at_call 68;refine hone2.mono ?_;rintro e w2 ⟨rfl,hb2⟩;have oO2:=own_below oO1 hb2;have hbb:=Nm.below_two hbl hb2)|(at_builtin;refine wpList_append_none _ rfl (.tmp 16) (.tmp 18) 30 rfl 33 i0 Tryz.underlying30 hi oa R0.length oc rfl rfl hoc ?_))
     have eT:=HT.out;rw [show rvVs ([]:List Rr)=[] from rfl,List.append_nil] at eT;have ho9:=oO2;rw [eT] at ho9;have hL:=HL.out;simp at hL;go_roundw
     case rel=>exact⟨k+1,by omega,by go_num,by rw [hR1,<- hL];exact ho9,hbb⟩
     case measure=>simp [intOf];omega
    ·have hm:0<R2.length:=by
      rw [hl1]
      cases hq:x.1.da with
      |nil=>exact absurd hq hda
      |cons _ _=>simp
     clear hemp hda hl1;obtain⟨⟨o1,ty,tt,da⟩,dv⟩:=x;simp only at c0 c1 c2 c3 hone hbl oO1 hdv
     subst hdv;obtain⟨oa,oc,hov⟩:=own_sl oO;subst hov;go_wp2_with (first|(go_at_call 68;refine hone.mono ?_;rintro e w2 ⟨u,rfl,hu,_,hb2⟩;obtain⟨ug,uc,hg⟩:=own_some hu hm;subst hg;have oO2:=own_below oO1 hb2;have hbb:=Nm.below_two hbl hb2)|(at_builtin;refine wpList_append_own _ rfl (.tmp 16) (.tmp 18) 30 rfl w.heap.size 33 i0 _ 5 56 Tryz.underlying30 hi hz0 hz1 hz2 rfl (by decide) (.slice oa R0.length oc) R0.length (rvVs R0) rfl oO2 ⟨ug,0,none⟩ R2.length uc (rvVs R2) rfl hrlen (fun j y hy=>by rw [Nm.addr_add,Nat.zero_add,hu.cellAt j (by have:=(List.getElem?_eq_some_iff.1 hy).1;omega)];exact hy) h1c (by unfold maxLen;omega) (by omega) hbb.size ?_;intro va wa ho9 hg9 hnl9))
     rw [HT.out,HL.out] at ho9;have b9:Below w.heap.size w wa:=hbb.grown hg9 hbb.size (fun g hg=>(oO2.lt g hg).1);go_wp2;go_roundw
     case rel=>exact⟨k+1,by omega,by go_num,by rw [hR1];exact ho9,b9⟩
     case measure=>simp [intOf];omega
   ·have hkl:k=ps.length:=by omega
    subst hkl;have i2:(ps.length:Int)<=(ps.length:Int):=by omega
    rw [List.take_length,<- hRS2] at oO;clear hrowW hstep hdst hrl hdd hRS2 hpl hf;go_wp2;go_ret;exact⟨_,rfl,oO,hbel⟩
 ·rw [decide_eq_false hsmall] at hsm;obtain rfl:RS=[]:=by rw [hRS,if_pos (by omega)]
  clear hRS hrowW hsmall;go_enter Tryz.func40,Tryz.ntmps40;go_wp2_with (go_at_call 67;refine hsm.mono ?_;rintro e w1 ⟨rfl,hb1⟩)
  go_ret;exact⟨_,rfl,⟨rfl,.inl ⟨rfl,rfl⟩⟩,Nm.below_two hB0 hb1⟩
theorem Tryz.infoRrq:(Tryz.prog.info? 33).map (fun i=>(i.zero,i.size,i.bytes))=some (some (.agg #[.string ByteArray.empty,.int .i64 0,.int .i64 0,.int .i64 0,.string ByteArray.empty]),5,56):=by kernel_rfl
set_option maxRecDepth 100000 in
set_option maxHeartbeats 3200000 in
theorem l06SetRecords_any(s:Sz)(dv:Value)(w:World)(h:Nm.SRow w dv s.da)(hl:s.da.length<=1048576):
 Calls Tryz.prog 18 #[.agg #[.string s.own,.int .i64 s.ty,.int .i64 s.tt,dv]] w fun e w'=>∃ u,e=.returned u∧w'.ownsRow w.heap.size 33 5 u (recsOf s).length (rvVs (recsOf s))∧Below w.heap.size w w':=by
 obtain⟨i0,hi,hz0,hz1,hz2⟩:=info_parts Tryz.infoRrq;have hrl:=recsOf_len s;have hget:=fun(k:Nat) (d:ByteArray) (h:s.da[k]? =some d)=>recsOf_get (s:=s) h
 generalize recsOf s=rs at*;obtain⟨o,ty,tt,da⟩:=s;simp only at*
 have hB0:=(Below.refl w.heap.size w).alloc (Nat.le_refl _) (.cells #[.string o,.int .i64 ty,.int .i64 tt,dv] 53);have hrow:=h.below hB0;have hbx:=blk_new w #[.string o,.int .i64 ty,.int .i64 tt,dv] 53;obtain⟨a,cap,rfl,hcap,hmx,hnl,hc⟩:=hrow;clear h;unfold maxLen at hmx;go_enter Tryz.func18,Tryz.ntmps18;go_wp2;have hsz0:(w.alloc (.cells #[.string o,.int .i64 ty,.int .i64 tt,.slice a da.length cap] 53)).heap.size=w.heap.size+1:=by simp
 generalize w.alloc (.cells #[.string o,.int .i64 ty,.int .i64 tt,.slice a da.length cap] 53)=w0 at*;have o0:=World.ownsRow_lit (base:=w0.heap.size) (e:=33) (size:=5) w0 #[] 0 (Nat.le_refl _) (by decide) rfl
 have hall:∀ W,Below w0.heap.size w0 W->∀ (k:Nat) (x:ByteArray),da[k]? =some x->∃ b off,a=some ⟨b,off,none⟩∧W.cell? ⟨b,off+k,none⟩=some (.string x):=by
  intro W hW k x hx;obtain⟨b,off,rfl,hcell⟩:=hc (by intro h;rw [h] at hx;simp at hx);have h0:=hcell k x hx;exact⟨b,off,rfl,(hW.cell (World.block_lt_of_cell? w0 _ h0)).trans h0⟩
 have hbox:∀ W,Below w0.heap.size w0 W->W.cell? ⟨w.heap.size,0,none⟩=some (.string o)∧W.cell? ⟨w.heap.size,1,none⟩=some (.int .i64 ty)∧W.cell? ⟨w.heap.size,2,none⟩=some (.int .i64 tt)∧W.cell? ⟨w.heap.size,3,none⟩=some (.slice a da.length cap):=by
  intro W hW;have hb:=blk_below hbx hW;exact⟨(blk_cell hb 0).trans rfl,(blk_cell hb 1).trans rfl,(blk_cell hb 2).trans rfl,(blk_cell hb 3).trans rfl⟩
 clear hc hbx
 go_loopw [3,4] (fun vo vi wr=>∃ k:Nat,k<=da.length∧vi=.int .i64 k∧wr.ownsRow w0.heap.size 33 5 vo k (rvVs (rs.take k))∧Below w0.heap.size w0 wr) (fun _ vi _=>da.length-(intOf vi).toNat)
 case atStart=>exact⟨0,Nat.zero_le _,rfl,by rw [<- hsz0];exact o0,(Below.refl _ _).alloc (Nat.le_refl _) _⟩
 case round=>
  obtain⟨k,hk,rfl,oO,hbel⟩:=hrel;clear o0;obtain⟨q0,q1,q2,q3⟩:=hbox wr hbel
  by_cases hlt:k<da.length
  ·obtain⟨x,hx⟩:∃ x,da[k]? =some x:=⟨_,List.getElem?_eq_getElem hlt⟩;obtain⟨b,off,rfl,_⟩:=hall wr hbel k x hx
   have hcx:∀ W,Below w0.heap.size w0 W->W.cell? ⟨w.heap.size,0,none⟩=some (.string o)∧W.cell? ⟨w.heap.size,1,none⟩=some (.int .i64 ty)∧W.cell? ⟨w.heap.size,2,none⟩=some (.int .i64 tt)∧W.cell? ⟨w.heap.size,3,none⟩=some (.slice (some ⟨b,off,none⟩) da.length cap)∧W.cell? ⟨b,off+k,none⟩=some (.string x):=by
    intro W hW;obtain⟨y0,y1,y2,y3⟩:=hbox W hW;obtain⟨b',off',he,hcc⟩:=hall W hW k x hx;cases he
    exact⟨y0,y1,y2,y3,hcc⟩
   have HT:Hid (rvVs (rs.take k)++[.string o,.int .i64 ty,.int .i64 1,.int .i64 tt,.string x]=rvVs (rs.take (k+1))):=by
    show _=_
    rw [hget k x hx,rvVs_app];rfl
   have i1:(0:Int)<=(k:Int):=by omega
   have i2:(k:Int)<(da.length:Int):=by omega
   clear hall hbox hget hx;go_wp2_with fail
   refine wp_region_held_drew (S:=fun W=>Below w0.heap.size w0 W) (by kernel_rfl) hbel.drew (fun hHeld=>?_);clear q0 q1 q2 q3;refine wpAnyH_take (i:=0) (v:=?_) rfl (by kernel_rfl) (by kernel_rfl) (by kernel_rfl) (fun _ _ _ h=>h) (Or.inl ⟨by rfl,?_⟩) (by assumption) ?_;rotate_left 1
   ·(intro W hSW;obtain⟨z0,z1,z2,z3,z4⟩:=hcx W hSW;go_simp;try (with_reducible rfl))
   refine wpAnyH_take (i:=1) (v:=?_) rfl (by kernel_rfl) (by kernel_rfl) (by kernel_rfl) (fun _ _ _ h=>h) (Or.inl ⟨by rfl,?_⟩) (by assumption) ?_;rotate_left 1
   ·(intro W hSW;obtain⟨z0,z1,z2,z3,z4⟩:=hcx W hSW;go_simp;try (with_reducible rfl))
   refine wpAnyH_take (i:=2) (v:=?_) rfl (by kernel_rfl) (by kernel_rfl) (by kernel_rfl) (fun _ _ _ h=>h) (Or.inl ⟨by rfl,?_⟩) (by assumption) ?_;rotate_left 1
   ·(intro W hSW;obtain⟨z0,z1,z2,z3,z4⟩:=hcx W hSW;go_simp;try (with_reducible rfl))
   refine wpAnyH_take (i:=3) (v:=?_) rfl (by kernel_rfl) (by kernel_rfl) (by kernel_rfl) (fun _ _ _ h=>h) (Or.inl ⟨by rfl,?_⟩) (by assumption) ?_;rotate_left 1
   ·(intro W hSW;obtain⟨z0,z1,z2,z3,z4⟩:=hcx W hSW;go_simp;try (with_reducible rfl))
   refine wpAnyH_take (i:=4) (v:=?_) rfl (by kernel_rfl) (by kernel_rfl) (by kernel_rfl) (fun _ _ _ h=>h) (Or.inl ⟨by rfl,?_⟩) (by assumption) ?_;rotate_left 1
   ·(intro W hSW;obtain⟨z0,z1,z2,z3,z4⟩:=hcx W hSW;go_simp;try (with_reducible rfl))
   refine wpAnyH_take (i:=5) (v:=?_) rfl (by kernel_rfl) (by kernel_rfl) (by kernel_rfl) (fun _ _ _ h=>h) (Or.inl ⟨by rfl,?_⟩) (by assumption) ?_;rotate_left 1
   ·(intro W hSW;obtain⟨z0,z1,z2,z3,z4⟩:=hcx W hSW;go_simp;try (with_reducible rfl))
   refine wpAnyH_take (i:=6) (v:=?_) rfl (by kernel_rfl) (by kernel_rfl) (by kernel_rfl) (fun _ _ _ h=>h) (Or.inl ⟨by rfl,?_⟩) (by assumption) ?_;rotate_left 1
   ·(intro W hSW;obtain⟨z0,z1,z2,z3,z4⟩:=hcx W hSW;go_simp;try (with_reducible rfl))
   refine wpAnyH_take (i:=7) (v:=?_) rfl (by kernel_rfl) (by kernel_rfl) (by kernel_rfl) (fun _ _ _ h=>h) (Or.inl ⟨by rfl,?_⟩) (by assumption) ?_;rotate_left 1
   ·(intro W hSW;obtain⟨z0,z1,z2,z3,z4⟩:=hcx W hSW;go_simp;try (with_reducible rfl))
   refine wpAnyH_take (i:=8) (v:=?_) rfl (by kernel_rfl) (by kernel_rfl) (by kernel_rfl) (fun _ _ _ h=>h) (Or.inl ⟨by rfl,?_⟩) (by assumption) ?_;rotate_left 1
   ·(intro W hSW;obtain⟨z0,z1,z2,z3,z4⟩:=hcx W hSW;go_simp;try (with_reducible rfl))
   refine wpAnyH_take (i:=9) (v:=?_) rfl (by kernel_rfl) (by kernel_rfl) (by kernel_rfl) (fun _ _ _ h=>h) (Or.inl ⟨by rfl,?_⟩) (by assumption) ?_;rotate_left 1
   ·(intro W hSW;obtain⟨z0,z1,z2,z3,z4⟩:=hcx W hSW;go_simp;try (with_reducible rfl))
   refine wpAnyH_take (i:=10) (v:=?_) rfl (by kernel_rfl) (by kernel_rfl) (by kernel_rfl) (fun _ _ _ h=>h) (Or.inl ⟨by rfl,?_⟩) (by assumption) ?_;rotate_left 1
   ·(intro W hSW;obtain⟨z0,z1,z2,z3,z4⟩:=hcx W hSW;go_simp;try (with_reducible rfl))
   refine wpAnyH_take (i:=11) (v:=?_) rfl (by kernel_rfl) (by kernel_rfl) (by kernel_rfl) (fun _ _ _ h=>h) (Or.inl ⟨by rfl,?_⟩) (by assumption) ?_;rotate_left 1
   ·(intro W hSW;obtain⟨z0,z1,z2,z3,z4⟩:=hcx W hSW;go_simp;try (with_reducible rfl))
   refine wpAnyH_take (i:=12) (v:=?_) rfl (by kernel_rfl) (by kernel_rfl) (by kernel_rfl) (fun _ _ _ h=>h) (Or.inl ⟨by rfl,?_⟩) (by assumption) ?_;rotate_left 1
   ·(intro W hSW;obtain⟨z0,z1,z2,z3,z4⟩:=hcx W hSW;go_simp;try (with_reducible rfl))
   refine wpAnyH_ready (rs:=[13]) (by kernel_rfl) (by simp) ?_;refine AllReadyH.cons rfl (fun K hK=>?_) AllReadyH.nil;go_simp;refine hK.out _ _ (hHeld.alloc hHeld.size _) (fun _=>?_);clear hK K;refine wpAnyH_ready (rs:=[14]) (by kernel_rfl) (by simp) ?_;refine AllReadyH.cons rfl (fun K hK=>?_) AllReadyH.nil;refine step_append_own rfl (.tmp 13) (.tmp 26) 30 rfl w0.heap.size 33 i0 _ 5 56 Tryz.underlying30 hi hz0 hz1 hz2 rfl (by decide) _ _ _ (by rfl) (own_below oO ((Below.refl _ _).drew.alloc (Nat.le_refl _) _)) ⟨wr.drew.heap.size,0,none⟩ 1 1 [.string o,.int .i64 ty,.int .i64 1,.int .i64 tt,.string x] (by rfl) rfl (cell_newV _ _ _) (by intro u hu;simp at hu;rcases hu with rfl|rfl|rfl|rfl|rfl<;>rfl) (by unfold maxLen;omega) (by omega) (by have:=hHeld.size;simp at this ⊢;omega) ?_;intro va wa hown' hgrow _;rw [HT.out] at hown';have b4:Below w0.heap.size w0 wa:=(hHeld.alloc hHeld.size _).grown hgrow (by have:=hHeld.size;simp at this ⊢;omega) (fun k hk=>(oO.lt k hk).1);refine hK.out _ _ b4 (fun _=>?_);clear hK K hgrow oO hHeld;refine wpAnyH_take (i:=15) (v:=?_) rfl (by kernel_rfl) (by kernel_rfl) (by kernel_rfl) (fun _ _ _ h=>h) (Or.inl ⟨by rfl,?_⟩) (by assumption) ?_;rotate_left 1
   ·(intro W hSW;obtain⟨z0,z1,z2,z3,z4⟩:=hcx W hSW;go_simp;try (with_reducible rfl))
   refine wpAnyH_done (by kernel_rfl) ?_ _;obtain⟨z0,z1,z2,z3,z4⟩:=hcx _ b4;go_wp2;go_roundw
   case rel=>exact⟨k+1,by omega,by go_num,hown',b4⟩
   case measure=>simp [intOf];omega
  ·have hkl:k=da.length:=by omega
   subst hkl;have i2:(da.length:Int)<=(da.length:Int):=by omega
   clear hall hbox hget;rw [List.take_of_length_le (by omega)] at oO;go_wp2;go_ret;refine⟨_,rfl,?_,Nm.below_two hB0 hbel⟩;rw [hrl];exact own_base oO hB0.size
set_option maxRecDepth 100000 in
set_option maxHeartbeats 3200000 in
theorem l06Join_any(a b:Value)(xs ys:List Rr)(B B2:Nat)(w:World)(h:w.ownsRow B 33 5 a xs.length (rvVs xs))(h':w.ownsRow B2 33 5 b ys.length (rvVs ys))(hB:B<=w.heap.size)(hlt:∀ g,a.ownBlock=some g->g<B2)(hn:xs.length+ys.length<=2000000):
 Calls Tryz.prog 17 #[a,b] w fun e w'=>∃ u,e=.returned u∧w'.ownsRow B 33 5 u (xs++ys).length (rvVs (xs++ys))∧Below B w w':=by
 obtain⟨i0,hi,hz0,hz1,hz2⟩:=info_parts Tryz.infoRrq;obtain⟨ba,bc,rfl⟩:=own_sl h';go_enter Tryz.func17,Tryz.ntmps17;go_wp2
 go_loopw [0,5] (fun vo vi wr=>∃ k:Nat,k<=ys.length∧vi=.int .i64 k∧wr.ownsRow B 33 5 vo (xs.length+k) (rvVs (xs++ys.take k))∧wr.ownsRow B2 33 5 (.slice ba ys.length bc) ys.length (rvVs ys)∧(∀ g,vo.ownBlock=some g->(Value.slice ba ys.length bc).ownBlock≠some g)∧B<=wr.heap.size∧Below B w wr) (fun _ vi _=>ys.length-(intOf vi).toNat)
 case atStart=>
  refine⟨0,Nat.zero_le _,rfl,by simpa using h,h',fun g hg e=>?_,hB,Below.refl _ _⟩;have h1:=hlt g hg;have h2:=(h'.lt g e).1;omega
 case round=>
  obtain⟨k,hk,rfl,oO,oY,hap,hBw,hbel⟩:=hrel;clear h h' hlt hB
  by_cases hlt:k<ys.length
  ·obtain⟨x,hx⟩:∃ x,ys[k]? =some x:=⟨_,List.getElem?_eq_getElem hlt⟩;obtain⟨_,ya,yc,hyv,hycap,hymx,hyc⟩:=CRow.of_owns oY;simp only [Value.slice.injEq] at hyv;obtain⟨rfl,_,rfl⟩:=hyv;obtain⟨b,off,rfl,hcell⟩:=hyc (by omega);obtain⟨c0,c1,c2,c3,c4⟩:=rv_cells hcell hx
   have HT:Hid (rvVs (xs++ys.take k)++[.string x.own,.int .i64 x.ty,.int .i64 x.cl,.int .i64 x.tt,.string x.da]=rvVs (xs++ys.take (k+1))):=by
    show _=_
    rw [List.take_add_one,hx,<- List.append_assoc,rvVs_app (xs++ys.take k)];rfl
   have i1:(0:Int)<=(k:Int):=by omega
   have i2:(k:Int)<(ys.length:Int):=by omega
   clear hcell hyc hx;obtain⟨o,ty,cl,tt,da⟩:=x;simp only at c0 c1 c2 c3 c4 HT
   obtain⟨oa,oc,hov⟩:=own_sl oO;subst hov;go_wp2_with (at_builtin;refine wpList_append_own_at _ rfl (.tmp 12) (.tmp 17) 30 rfl B 33 i0 _ 5 56 Tryz.underlying30 hi hz0 hz1 hz2 rfl (by decide) (.slice oa (xs.length+k) oc) (xs.length+k) (rvVs (xs++ys.take k)) rfl (own_below oO ((Below.refl _ _).alloc (Nat.le_refl _) _)) ⟨wr.heap.size,0,none⟩ 1 1 [.string o,.int .i64 ty,.int .i64 cl,.int .i64 tt,.string da] rfl rfl (cell_newV _ _ _) (by intro u hu;simp at hu;rcases hu with rfl|rfl|rfl|rfl|rfl<;>rfl) (by unfold maxLen;omega) (by omega) (by simp;omega) ?_;intro va wa ho9 hg9 hnl9 hat9)
   rw [HT.out] at ho9;have oY2:=own_below oY ((Below.refl _ _).alloc (Nat.le_refl _) (.cells #[.string o,.int .i64 ty,.int .i64 cl,.int .i64 tt,.string da] 33))
   have oY3:wa.ownsRow B2 33 5 (.slice (some ⟨b,off,none⟩) ys.length bc) ys.length (rvVs ys):=by
    refine oY2.kept hg9 ?_
    cases hoa:(Value.slice oa (xs.length+k) oc).ownBlock with
    |none=>right;simp [Value.ownBlock]
    |some g=>right;exact hap g hoa
   have hlty:=(oY.lt b rfl).2
   have hap2:∀ g,va.ownBlock=some g->(Value.slice (some ⟨b,off,none⟩) ys.length bc).ownBlock≠some g:=by
    intro g hg
    rcases hat9 with h9|h9
    ·exact hap g (by rw [<- h9];exact hg)
    ·rw [h9] at hg;simp only [Option.some.injEq,Value.ownBlock,ne_eq] at hg ⊢;simp at hg;omega
   have b4:Below B w wa:=(hbel.alloc hBw _).grown hg9 (by simp;omega) (fun g hg=>(oO.lt g hg).1);have hB4:B<=wa.heap.size:=by have:=hg9.size;simp at this;omega
   clear hat9 hnl9 hg9 oY oY2 oO hap;go_wp2;go_roundw
   case rel=>exact⟨k+1,by omega,by go_num,ho9,oY3,hap2,hB4,b4⟩
   case measure=>simp [intOf];omega
  ·have hkl:k=ys.length:=by omega
   subst hkl;have i2:(ys.length:Int)<=(ys.length:Int):=by omega
   rw [List.take_length] at oO;clear oY hap;go_wp2;go_ret;refine⟨_,rfl,?_,hbel⟩;rw [List.length_append];exact oO
set_option maxRecDepth 100000 in
set_option maxHeartbeats 1600000 in
theorem l06Count_any(o:ByteArray)(v:Value)(ps:List Zp)(w:World)(h:ZRow w v ps)(hs:zsum ps<=1048576)(hl:ps.length<=1048576):
 Calls Tryz.prog 11 #[.agg #[.string o,v]] w fun e w'=>e=.returned (.int .i64 (dsum ps:Int))∧Below w.heap.size w w':=by
 have hds:=dsum_le ps;have hB0:=(Below.refl w.heap.size w).alloc (Nat.le_refl _) (.cells #[.string o,v] 25);have hbx:=blk_new w #[.string o,v] 25;obtain⟨⟨_,a,cap,rfl,hcap,hmx,hc⟩,hd⟩:=h;unfold maxLen at hmx;have hb1:=(blk_cell hbx 1).trans rfl;go_enter Tryz.func11,Tryz.ntmps11;go_wp2
 go_loop [3,4] (fun t i=>∃ k:Nat,k<=ps.length∧i=.int .i64 k∧t=.int .i64 (dsum (ps.take k):Int)) (fun _ i=>ps.length-(intOf i).toNat)
 case atStart=>exact⟨0,Nat.zero_le _,rfl,by simp [dsum]⟩
 case round=>
  obtain⟨k,hk,rfl,rfl⟩:=hrel
  by_cases hlt:k<ps.length
  ·obtain⟨x,hxk⟩:∃ x,ps[k]? =some x:=⟨_,List.getElem?_eq_getElem hlt⟩;obtain⟨b,off,rfl,hcell⟩:=hc (by omega);obtain⟨c0,c1,c2,c3⟩:=zp_cells hcell hxk;have c3':=(hB0.cell (World.block_lt_of_cell? w _ c3)).trans c3;have HS:=dsum_step ps k x hxk;have hs1:=dsum_take_le ps (k+1);obtain⟨da',dc,hdv,_⟩:=hd x (List.mem_of_getElem? hxk);have i1:(0:Int)<=(k:Int):=by omega
   have i2:(k:Int)<(ps.length:Int):=by omega
   have hfin:((dsum (ps.take (k+1)):Nat):Int)=(dsum (ps.take k):Int)+(x.1.da.length:Int):=by omega
   have hbd:(dsum (ps.take k):Int)+(x.1.da.length:Int)<=1048576:=by omega
   clear hxk hcell hc hd;obtain⟨⟨o1,ty,tt,da⟩,dv⟩:=x;simp only at c3' hdv hfin hbd
   subst hdv;generalize hz:dsum (ps.take (k+1))=z1 at*;generalize dsum (ps.take k)=z0 at*;go_wp2
   go_round
   case rel=>exact⟨k+1,by omega,by go_num,by rw [hz,hfin]⟩
   case measure=>simp [intOf];omega
  ·have hkl:k=ps.length:=by omega
   subst hkl;clear hc hd;have i2:(ps.length:Int)<=(ps.length:Int):=by omega
   rw [List.take_length];go_wp2;go_ret;exact⟨rfl,hB0⟩
set_option maxRecDepth 100000 in
set_option maxHeartbeats 3200000 in
theorem specZoneRecords_any(o:ByteArray)(v:Value)(ps:List Zp)(w:World)(h:ZRow w v ps)(hs:zsum ps<=1048576)(hl:ps.length<=1048576):
 Calls Tryz.prog 7 #[.agg #[.string o,v]] w fun e w'=>∃ u,e=.returned u∧w'.ownsRow w.heap.size 33 5 u (zoneRecs ps).length (rvVs (zoneRecs ps))∧Below w.heap.size w w':=by
 obtain⟨RS,hRS⟩:∃ R,R=zoneRecs ps:=⟨_,rfl⟩;rw [<- hRS];unfold zoneRecs at hRS;have hB0:=(Below.refl w.heap.size w).alloc (Nat.le_refl _) (.cells #[.string o,v] 25);have hbx:=blk_new w #[.string o,v] 25;have hrow:=h.below hB0;have hrowW:=h;have hsz0:(w.alloc (.cells #[.string o,v] 25)).heap.size=w.heap.size+1:=by simp
 have o0:=World.ownsRow_lit (base:=(w.alloc (.cells #[.string o,v] 25)).heap.size) (e:=33) (size:=5) (w.alloc (.cells #[.string o,v] 25)) #[] 0 (Nat.le_refl _) (by decide) rfl;obtain⟨⟨_,a,cap,rfl,hcap,hmx,_⟩,_⟩:=h;unfold maxLen at hmx
 by_cases hbig:500<ps.length
 ·have hbig':(500:Int)<(ps.length:Int):=by omega
  obtain rfl:RS=[]:=by rw [hRS,if_pos (.inl hbig)]
  clear hRS hrow;go_enter Tryz.func7,Tryz.ntmps7;go_wp2;go_ret;refine⟨_,rfl,?_,hB0.alloc hB0.size _⟩;rw [hsz0] at o0;exact own_base o0 (by omega)
 ·have hbig':(ps.length:Int)<=500:=by omega
  have hcnt:=fun W (hW:Below (w.alloc (.cells #[.string o,.slice a ps.length cap] 25)).heap.size (w.alloc (.cells #[.string o,.slice a ps.length cap] 25)) W)=>l06Count_any o (.slice a ps.length cap) ps W (hrow.below hW) hs hl
  by_cases hd:500<dsum ps
  ·have hd':(500:Int)<(dsum ps:Int):=by omega
   obtain rfl:RS=[]:=by rw [hRS,if_pos (.inr hd)]
   clear hRS hrow;generalize dsum ps=D at*;go_enter Tryz.func7,Tryz.ntmps7;go_wp2_with (go_at_call 11;refine(hcnt _ ((Below.refl _ _).alloc (Nat.le_refl _) _)).mono ?_;rintro e w1 ⟨rfl,hb1⟩)
   go_ret;refine⟨_,rfl,?_,Nm.below_two (hB0.alloc hB0.size _) hb1⟩;have o1:=own_below o0 hb1;rw [hsz0] at o1;exact own_base o1 (by omega)
  ·have hd':(dsum ps:Int)<=500:=by omega
   have hRS2:RS=recsAll ps:=by rw [hRS,if_neg (by omega)]
   clear hRS;have hdd:∀ k,dsum (ps.take k)<=500:=fun k=>by have:=dsum_take_le ps k;omega
   have hrl:=fun k=>recsAll_len (ps.take k)
   have hstep:=fun(k:Nat) (x:Zp) (h:ps[k]? =some x)=>recsAll_step h
   have hdst:=fun(k:Nat) (x:Zp) (h:ps[k]? =some x)=>dsum_step ps k x h
   have hrun:=hcnt;generalize hDP:dsum ps=D at hrun hd';go_enter Tryz.func7,Tryz.ntmps7;go_wp2_with (go_at_call 11;refine(hrun _ ((Below.refl _ _).alloc (Nat.le_refl _) _)).mono ?_;rintro e w1 ⟨rfl,hb1⟩)
   have hbx1:=blk_below (blk_alloc hbx (.cells #[] 33)) hb1;have hB1:=Nm.below_two (hB0.alloc hB0.size (.cells #[] 33)) hb1;have o1:=own_below o0 hb1;have hb01:Below (w.alloc (.cells #[.string o,.slice a ps.length cap] 25)).heap.size (w.alloc (.cells #[.string o,.slice a ps.length cap] 25)) w1:=Nm.below_two ((Below.refl _ _).alloc (Nat.le_refl _) _) hb1;have hrow1:=hrow.below hb01;rw [hsz0] at o1;clear hcnt hrun hb1 hb01 o0 hrow hbx hB0 hsz0;obtain⟨wb,hwb⟩:∃ wb,wb=w1:=⟨w1,rfl⟩;have hw1b:w.heap.size+1<=w1.heap.size:=blk_lt hbx1
   go_loopw [3,4] (fun vo vi wr=>∃ k:Nat,k<=ps.length∧vi=.int .i64 k∧wr.ownsRow (w.heap.size+1) 33 5 vo (recsAll (ps.take k)).length (rvVs (recsAll (ps.take k)))∧Below (w.heap.size+1) w1 wr) (fun _ vi _=>ps.length-(intOf vi).toNat)
   case atStart=>exact⟨0,Nat.zero_le _,rfl,o1,Below.refl _ _⟩
   case round=>
    obtain⟨k,hk,rfl,oO,hbel⟩:=hrel;clear o1;have hW:Below w.heap.size w wr:=hB1.trans (hbel.mono (by omega));have hbr:Blk wr w.heap.size #[.string o,.slice a ps.length cap] 25:=(hbel.block _ (by omega)).trans hbx1;have q1:wr.cell? ⟨w.heap.size,1,none⟩=some (.slice a ps.length cap):=(blk_cell hbr 1).trans rfl;have hwsz:w.heap.size+1<=wr.heap.size:=blk_lt hbr
    by_cases hlt:k<ps.length
    ·obtain⟨x,hxk⟩:∃ x,ps[k]? =some x:=⟨_,List.getElem?_eq_getElem hlt⟩;obtain⟨⟨_,a',cap',hv,_,_,hc⟩,hsr⟩:=hrowW.below hW;simp only [Value.slice.injEq] at hv;obtain⟨rfl,_,rfl⟩:=hv;obtain⟨b,off,rfl,hcell⟩:=hc (by omega);obtain⟨c0,c1,c2,c3⟩:=zp_cells hcell hxk;have hmem:=List.mem_of_getElem? hxk;have hxl:x.1.da.length<=1048576:=by have:=zsum_mem ps x hmem;unfold zs1 at this;omega
     have hone:=l06SetRecords_any x.1 x.2 wr (hsr x hmem) hxl;have hsp:=hstep k x hxk;have hld:=hdst k x hxk;have hd1:=hdd (k+1);have hl0:=hrl k;have hl1:=recsOf_len x.1;have hjn:=fun U W (h1:W.ownsRow (w.heap.size+1) 33 5 _ (recsAll (ps.take k)).length (rvVs (recsAll (ps.take k)))) (h2:W.ownsRow wr.heap.size 33 5 U (recsOf x.1).length (rvVs (recsOf x.1))) hB=>l06Join_any _ U (recsAll (ps.take k)) (recsOf x.1) (w.heap.size+1) wr.heap.size W h1 h2 hB (fun g hg=>(oO.lt g hg).2) (by omega)
     rw [<- hsp] at hjn;have i1:(0:Int)<=(k:Int):=by omega
     have i2:(k:Int)<(ps.length:Int):=by omega
     clear hcell hc hsr hrowW hstep hdst hrl hdd hsp hld hl0 hl1 hmem hxk;generalize recsAll (ps.take k)=R0 at*;generalize hR1:recsAll (ps.take (k+1))=R1 at*;generalize recsOf x.1=R2 at*;obtain⟨⟨o1,ty,tt,da⟩,dv⟩:=x;simp only at c0 c1 c2 c3 hone
     obtain⟨oa,oc,hov⟩:=own_sl oO;subst hov;go_wp2_with (first|(go_at_call 18;refine hone.mono ?_;rintro e w2 ⟨u,rfl,hu,hb2⟩;have oO2:=own_below oO hb2)|(go_at_call 17;refine(hjn _ _ oO2 hu (by have:=hb2.size;omega)).mono ?_;rintro e w3 ⟨u3,rfl,hu3,hb3⟩))
     go_roundw
     case rel=>exact⟨k+1,by omega,by go_num,by rw [hR1];exact hu3,(hbel.trans (hb2.mono (by omega))).trans hb3⟩
     case measure=>simp [intOf];omega
    ·have hkl:k=ps.length:=by omega
     subst hkl;have i2:(ps.length:Int)<=(ps.length:Int):=by omega
     rw [List.take_length,<- hRS2] at oO;clear hrowW hstep hdst hrl hdd hRS2;go_wp2;go_ret;exact⟨_,rfl,own_base oO (by omega),hW⟩
end Go.Proofs.YtfmolgdfjklmpaaGreat
