import Derived.Test.YtaceiajcecaapaaGreatJZrM
import Derived.Test.YtaceiajcecaapaaGreatJTrN
import Derived.Test.YtaceiajcecaapaaGreatJCRow
import Derived.RegionTactic
import Derived.BigRegion
import Derived.Deep.RegionHeld3
import Derived.Maps.Own
import Derived.DeepKeys4
import Derived.Maps.RangeRun
import Derived.WideKeyEntry
import Derived.Test.YtaceiajcecaapaaGreatJZnM
import Derived.Test.YtaceiajcecaapaaGreatJRrM
namespace Go.Proofs.YtaceiajcecaapaaGreat
open Go.RowKit
set_option linter.unusedVariables false
theorem Tryz.infoRri:(Tryz.prog.info? 47).map (fun i=>(i.zero,i.size,i.bytes))=some (some (.agg #[.string ByteArray.empty,.int .i64 0,.int .i64 0,.int .i64 0,.string ByteArray.empty]),5,56):=by kernel_rfl
set_option maxRecDepth 100000 in
set_option maxHeartbeats 1600000 in
theorem isSmall_any(o:ByteArray)(v:Value)(ps:List Zp)(w:World)(h:ZRow w v ps)(hd:∀ p∈ps,p.1.da.length<=1048576):
 Calls Tryz.prog 62 #[.agg #[.string o,v]] w fun e w'=>e=.returned (.bool (decide (ps.length<=500∧dsum ps<=500)))∧Below w.heap.size w w':=by
 have hB0:=(Below.refl w.heap.size w).alloc (Nat.le_refl _) (.cells #[.string o,v] 32);have hrowW:=h;obtain⟨⟨_,a,cap,rfl,hcap,hmx,_⟩,_⟩:=h;unfold maxLen at hmx;obtain⟨RB,hRB⟩:∃ b,b=decide (ps.length<=500∧dsum ps<=500):=⟨_,rfl⟩;rw [<- hRB]
 by_cases hbig:500<ps.length
 ·have hbig':(500:Int)<(ps.length:Int):=by omega
  obtain rfl:RB=false:=by rw [hRB];simp;omega
  clear hrowW hRB;go_enter Tryz.func62,Tryz.ntmps62;go_wp2;go_ret;exact⟨rfl,hB0⟩
 ·have hbig':(ps.length:Int)<=500:=by omega
  have HRB:=Nm.hide hRB;clear hRB;go_enter Tryz.func62,Tryz.ntmps62;go_wp2
  go_loopw [3,13] (fun t i wr=>∃ k:Nat,k<=ps.length∧i=.int .i64 k∧t=.int .i64 (dsum (ps.take k):Int)∧dsum (ps.take k)<=500∧Below w.heap.size w wr) (fun _ i _=>ps.length-(intOf i).toNat)
  case atStart=>exact⟨0,Nat.zero_le _,rfl,by simp [dsum],by simp [dsum],hB0⟩
  case round=>
   obtain⟨k,hk,rfl,rfl,hle,hbel⟩:=hrel
   by_cases hlt:k<ps.length
   ·obtain⟨x,hxk⟩:∃ x,ps[k]? =some x:=⟨_,List.getElem?_eq_getElem hlt⟩;obtain⟨⟨_,a',cap',hv,_,_,hc⟩,hsr⟩:=hrowW.below hbel;simp only [Value.slice.injEq] at hv;obtain⟨rfl,_,rfl⟩:=hv;obtain⟨b,off,rfl,hcell⟩:=hc (by omega);obtain⟨c0,c1,c2,c3⟩:=zp_cells hcell hxk;have hmem:=List.mem_of_getElem? hxk;obtain⟨da',dc,hdv,_⟩:=hsr x hmem;have HS:=dsum_step ps k x hxk;have hs1:=dsum_take_le ps (k+1);have hdl:=hd x hmem;have i1:(0:Int)<=(k:Int):=by omega
    have i2:(k:Int)<(ps.length:Int):=by omega
    have hB1:=hbel.alloc hbel.size (.cells #[.string x.1.own,.int .i64 x.1.ty,.int .i64 x.1.tt,x.2] 65);have hfin:((dsum (ps.take (k+1)):Nat):Int)=(dsum (ps.take k):Int)+(x.1.da.length:Int):=by omega
    have hbd:(dsum (ps.take k):Int)+(x.1.da.length:Int)<=2000000:=by omega
    have hno:500<dsum (ps.take (k+1))->RB=false:=by
     intro hx;rw [HRB.out];simp;omega
    clear hcell hc hsr hrowW hmem hxk;obtain⟨⟨o1,ty,tt,da⟩,dv⟩:=x;simp only at c0 c1 c2 c3 hdv hfin hbd hB1
    subst hdv;generalize hz:dsum (ps.take (k+1))=z1 at*;generalize dsum (ps.take k)=z0 at*
    by_cases hgt:500<z1
    ·obtain rfl:RB=false:=hno hgt;have hgt':(500:Int)<(z0:Int)+(da.length:Int):=by omega
     clear HRB hno;go_wp2;go_ret;exact⟨rfl,hB1⟩
    ·have hgt':(z0:Int)+(da.length:Int)<=500:=by omega
     clear hno;go_wp2;go_roundw
     case rel=>exact⟨k+1,by omega,by go_num,by rw [hz,hfin],by omega,hB1⟩
     case measure=>simp [intOf];omega
   ·have hkl:k=ps.length:=by omega
    subst hkl;rw [List.take_length] at hle;obtain rfl:RB=true:=by rw [HRB.out];simp;omega
    have i2:(ps.length:Int)<=(ps.length:Int):=by omega
    clear hrowW HRB;go_wp2;go_ret;exact⟨rfl,hbel⟩
set_option maxRecDepth 100000 in
set_option maxHeartbeats 3200000 in
theorem records_any(s:Sz)(dv:Value)(w:World)(h:Nm.SRow w dv s.da)(hl:s.da.length<=1048576)(ho:s.own.size<=1048576)(hx:∀ x∈s.da,x.size<=1048576):
 Calls Tryz.prog 63 #[.agg #[.string s.own,.int .i64 s.ty,.int .i64 s.tt,dv]] w fun e w'=>∃ u,e=.returned u∧w'.ownsRow w.heap.size 47 5 u (recsOf s).length (rvVs (recsOf s))∧(s.da=[]->u=.slice none 0 0)∧Below w.heap.size w w':=by
 obtain⟨i0,hi,hz0,hz1,hz2⟩:=info_parts Tryz.infoRri;have hrl:=recsOf_len s;have hget:=fun(k:Nat) (d:ByteArray) (h:s.da[k]? =some d)=>recsOf_get (s:=s) h
 generalize recsOf s=rs at*;obtain⟨o,ty,tt,da⟩:=s;simp only at*
 have hclo:=fun W=>clone_any o W (by omega)
 have hcld:=fun(x:ByteArray) (hm:x∈da) W=>clone_any x W (by have:=hx x hm;omega)
 have hB0:=(Below.refl w.heap.size w).alloc (Nat.le_refl _) (.cells #[.string o,.int .i64 ty,.int .i64 tt,dv] 65);have hrow:=h.below hB0;have hbx:=blk_new w #[.string o,.int .i64 ty,.int .i64 tt,dv] 65;obtain⟨a,cap,rfl,hcap,hmx,hnl,hc⟩:=hrow;clear h hx;unfold maxLen at hmx;go_enter Tryz.func63,Tryz.ntmps63;go_wp2;generalize w.alloc (.cells #[.string o,.int .i64 ty,.int .i64 tt,.slice a da.length cap] 65)=w0 at*
 have hall:∀ W,Below w0.heap.size w0 W->∀ (k:Nat) (x:ByteArray),da[k]? =some x->∃ b off,a=some ⟨b,off,none⟩∧W.cell? ⟨b,off+k,none⟩=some (.string x):=by
  intro W hW k x hx;obtain⟨b,off,rfl,hcell⟩:=hc (by intro h;rw [h] at hx;simp at hx);have h0:=hcell k x hx;exact⟨b,off,rfl,(hW.cell (World.block_lt_of_cell? w0 _ h0)).trans h0⟩
 have hbox:∀ W,Below w0.heap.size w0 W->W.cell? ⟨w.heap.size,0,none⟩=some (.string o)∧W.cell? ⟨w.heap.size,1,none⟩=some (.int .i64 ty)∧W.cell? ⟨w.heap.size,2,none⟩=some (.int .i64 tt)∧W.cell? ⟨w.heap.size,3,none⟩=some (.slice a da.length cap):=by
  intro W hW;have hb:=blk_below hbx hW;exact⟨(blk_cell hb 0).trans rfl,(blk_cell hb 1).trans rfl,(blk_cell hb 2).trans rfl,(blk_cell hb 3).trans rfl⟩
 clear hc hbx
 go_loopw [3,9] (fun vo vi wr=>∃ k:Nat,k<=da.length∧vi=.int .i64 k∧wr.ownsRow w0.heap.size 47 5 vo k (rvVs (rs.take k))∧(k=0->vo=.slice none 0 0)∧Below w0.heap.size w0 wr) (fun _ vi _=>da.length-(intOf vi).toNat)
 case atStart=>exact⟨0,Nat.zero_le _,rfl,⟨rfl,.inl ⟨rfl,rfl⟩⟩,fun _=>rfl,Below.refl _ _⟩
 case round=>
  obtain⟨k,hk,rfl,oO,hnil,hbel⟩:=hrel
  by_cases hlt:k<da.length
  ·obtain⟨x,hx⟩:∃ x,da[k]? =some x:=⟨_,List.getElem?_eq_getElem hlt⟩;obtain⟨b,off,rfl,hcc⟩:=hall wr hbel k x hx;have hcl2:=fun W=>hcld x (List.mem_of_getElem? hx) W
   have HT:Hid (rvVs (rs.take k)++[.string o,.int .i64 ty,.int .i64 1,.int .i64 tt,.string x]=rvVs (rs.take (k+1))):=by
    show _=_
    rw [hget k x hx,rvVs_app];rfl
   have i1:(0:Int)<=(k:Int):=by omega
   have i2:(k:Int)<(da.length:Int):=by omega
   clear hall hget hx hcld hnil;go_wp2_with fail
   refine wp_region_held_drew (S:=fun W=>Below w0.heap.size w0 W) (by kernel_rfl) hbel.drew (fun hHeld=>?_);refine wpAnyH_take (i:=0) (v:=?_) rfl (by kernel_rfl) (by kernel_rfl) (by kernel_rfl) (fun _ _ _ h=>h) (Or.inl ⟨by rfl,?_⟩) (by assumption) ?_;rotate_left 1
   ·(intro W hSW;obtain⟨z0,z1,z2,z3⟩:=hbox W hSW;go_simp;try (with_reducible rfl))
   refine wpAnyH_take (i:=1) (v:=?_) rfl (by kernel_rfl) (by kernel_rfl) (by kernel_rfl) (fun _ _ _ h=>h) (Or.inl ⟨by rfl,?_⟩) (by assumption) ?_;rotate_left 1
   ·(intro W hSW;obtain⟨z0,z1,z2,z3⟩:=hbox W hSW;go_simp;try (with_reducible rfl))
   refine wpAnyH_take (i:=2) (v:=?_) rfl (by kernel_rfl) (by kernel_rfl) (by kernel_rfl) (fun _ _ _ h=>h) (Or.inl ⟨by rfl,?_⟩) (by assumption) ?_;rotate_left 1
   ·(intro W hSW;obtain⟨z0,z1,z2,z3⟩:=hbox W hSW;go_simp;try (with_reducible rfl))
   refine wpAnyH_take (i:=4) (v:=?_) rfl (by kernel_rfl) (by kernel_rfl) (by kernel_rfl) (fun _ _ _ h=>h) (Or.inl ⟨by rfl,?_⟩) (by assumption) ?_;rotate_left 1
   ·(intro W hSW;obtain⟨z0,z1,z2,z3⟩:=hbox W hSW;go_simp;try (with_reducible rfl))
   refine wpAnyH_take (i:=5) (v:=?_) rfl (by kernel_rfl) (by kernel_rfl) (by kernel_rfl) (fun _ _ _ h=>h) (Or.inl ⟨by rfl,?_⟩) (by assumption) ?_;rotate_left 1
   ·(intro W hSW;obtain⟨z0,z1,z2,z3⟩:=hbox W hSW;go_simp;try (with_reducible rfl))
   refine wpAnyH_take (i:=6) (v:=?_) rfl (by kernel_rfl) (by kernel_rfl) (by kernel_rfl) (fun _ _ _ h=>h) (Or.inl ⟨by rfl,?_⟩) (by assumption) ?_;rotate_left 1
   ·(intro W hSW;obtain⟨z0,z1,z2,z3⟩:=hbox W hSW;go_simp;try (with_reducible rfl))
   refine wpAnyH_take (i:=7) (v:=?_) rfl (by kernel_rfl) (by kernel_rfl) (by kernel_rfl) (fun _ _ _ h=>h) (Or.inl ⟨by rfl,?_⟩) (by assumption) ?_;rotate_left 1
   ·(intro W hSW;obtain⟨z0,z1,z2,z3⟩:=hbox W hSW;go_simp;try (with_reducible rfl))
   refine wpAnyH_take (i:=8) (v:=?_) rfl (by kernel_rfl) (by kernel_rfl) (by kernel_rfl) (fun _ _ _ h=>h) (Or.inl ⟨by rfl,?_⟩) (by assumption) ?_;rotate_left 1
   ·(intro W hSW;obtain⟨z0,z1,z2,z3⟩:=hbox W hSW;go_simp;try (with_reducible rfl))
   refine wpAnyH_ready (rs:=[3]) (by kernel_rfl) (by simp) ?_;refine AllReadyH.cons rfl (fun K hK=>?_) AllReadyH.nil;go_simp;refine(hclo _).mono ?_;rintro e w3 ⟨rfl,hb3⟩;have hS3:Below w0.heap.size w0 w3:=Below.trans hHeld (hb3.mono hHeld.size);have oO3:=own_below (own_below oO (Below.refl _ _).drew) hb3;go_wp2_with fail
   refine hK.out _ _ hS3 (fun _=>?_);clear hK K;refine wpAnyH_ready (rs:=[9]) (by kernel_rfl) (by simp) ?_;refine AllReadyH.cons rfl (fun K hK=>?_) AllReadyH.nil;go_simp;refine(hcl2 _).mono ?_;rintro e w4 ⟨rfl,hb4⟩;have hS4:Below w0.heap.size w0 w4:=Below.trans hS3 (hb4.mono hS3.size);have oO4:=own_below oO3 hb4;go_wp2_with fail
   refine hK.out _ _ hS4 (fun _=>?_);clear hK K oO3 hS3;refine wpAnyH_take (i:=10) (v:=?_) rfl (by kernel_rfl) (by kernel_rfl) (by kernel_rfl) (fun _ _ _ h=>h) (Or.inl ⟨by rfl,?_⟩) (by assumption) ?_;rotate_left 1
   ·(intro W hSW;obtain⟨z0,z1,z2,z3⟩:=hbox W hSW;go_simp;try (with_reducible rfl))
   refine wpAnyH_ready (rs:=[11]) (by kernel_rfl) (by simp) ?_;refine AllReadyH.cons rfl (fun K hK=>?_) AllReadyH.nil;go_simp;refine hK.out _ _ (hS4.alloc hS4.size _) (fun _=>?_);clear hK K;refine wpAnyH_ready (rs:=[12]) (by kernel_rfl) (by simp) ?_;refine AllReadyH.cons rfl (fun K hK=>?_) AllReadyH.nil;refine step_append_own rfl (.tmp 13) (.tmp 24) 34 rfl w0.heap.size 47 i0 _ 5 56 Tryz.underlying34 hi hz0 hz1 hz2 rfl (by decide) _ _ _ (by rfl) (own_below oO4 ((Below.refl _ _).alloc (Nat.le_refl _) _)) ⟨w4.heap.size,0,none⟩ 1 1 [.string o,.int .i64 ty,.int .i64 1,.int .i64 tt,.string x] (by rfl) rfl (cell_newV _ _ _) (by intro u hu;simp at hu;rcases hu with rfl|rfl|rfl|rfl|rfl<;>rfl) (by unfold maxLen;omega) (by omega) (by have:=hS4.size;simp;omega) ?_;intro va wa hown' hgrow _;rw [HT.out] at hown';have b4:Below w0.heap.size w0 wa:=(hS4.alloc hS4.size _).grown hgrow (by have:=hS4.size;simp;omega) (fun k hk=>(oO4.lt k hk).1);refine hK.out _ _ b4 (fun _=>?_);clear hK K hgrow oO oO4 hHeld hS4;refine wpAnyH_take (i:=13) (v:=?_) rfl (by kernel_rfl) (by kernel_rfl) (by kernel_rfl) (fun _ _ _ h=>h) (Or.inl ⟨by rfl,?_⟩) (by assumption) ?_;rotate_left 1
   ·(intro W hSW;obtain⟨z0,z1,z2,z3⟩:=hbox W hSW;go_simp;try (with_reducible rfl))
   refine wpAnyH_done (by kernel_rfl) ?_ _;obtain⟨z0,z1,z2,z3⟩:=hbox _ b4;go_wp2;go_roundw
   case rel=>exact⟨k+1,by omega,by go_num,hown',fun h=>by omega,b4⟩
   case measure=>simp [intOf];omega
  ·have hkl:k=da.length:=by omega
   subst hkl;have i2:(da.length:Int)<=(da.length:Int):=by omega
   clear hall hbox hget hcld;rw [List.take_of_length_le (by omega)] at oO;go_wp2;go_ret;refine⟨_,rfl,?_,fun h=>hnil (by rw [h];rfl),Nm.below_two hB0 hbel⟩;rw [hrl];exact own_base oO hB0.size
end Go.Proofs.YtaceiajcecaapaaGreat
namespace Go.Proofs.YtaceiajcecaapaaGreat
open Go Go.Maps Go.MapKept Go.ChangeMaps
set_option linter.unusedVariables false
abbrev SK:Type:=ByteArray×Int
abbrev skV(k:SK):Value:=.agg #[.string k.1,.int .i64 k.2]
def SFit(k:SK):Prop:=k.1.size<=maxLen∧(Lit.int .i64 k.2).wf=true
theorem skV_inj{a b:SK}(h:skV a=skV b):a=b:=by
 cases a;cases b
 simp [skV] at h
 obtain⟨rfl,rfl⟩:=h;rfl
theorem sk_laidOut:laidOutB Tryz.prog=true:=by kernel_rfl
theorem sk_law:Keyed Tryz.prog 130:=Keyed.of_law (deep_law_laid sk_laidOut (m:=3) (by omega) (of_decide_eq_true (by kernel_rfl)) (by kernel_rfl) (by kernel_rfl))
theorem sk_key{k:SK}(h:SFit k):∃ l,keyOf Tryz.prog 130 (skV k)=some l:=by
 obtain⟨h1,h2⟩:=h;have hk:Tryz.prog.keyType 130=true:=by kernel_rfl
 have hc:Tryz.prog.cellsOf 130=2:=by kernel_rfl
 have hs:Tryz.prog.cellsOf 9=1:=by kernel_rfl
 have hi:Tryz.prog.cellsOf 2=1:=by kernel_rfl
 have hu:=Tryz.underlying130;have us:=Tryz.underlying9;have ui:=Tryz.underlying2
 obtain⟨m,hm⟩:∃ m,Tryz.prog.types.size=m+1:=⟨Tryz.prog.types.size-1,by
  have:0<Tryz.prog.types.size:=of_decide_eq_true (by kernel_rfl)
  omega⟩
 have hf:(skV k).formed Tryz.prog 130=true:=by simp [Value.formed,hu,hc]
 have hl:∃ ls,Tryz.prog.keyLits (Tryz.prog.types.size+1) 130 (skV k).cells.toList=some ls:=by
  rw [hm];simp [Program.keyLits,hu,hc,us,ui,hs,hi,Value.cells,h1,h2]
 obtain⟨ls,hls⟩:=hl;unfold keyOf;rw [hu];simp only
 rw [hk,hf,hls];exact⟨_,rfl⟩
def kmV(p:SK×Value):Value×Value:=(skV p.1,p.2)
def KMap(w:World)(r:Nat)(L:List (SK×Value)):Prop:=∃ es:Array MapEntry,w.heap[r]? =some (.map es es.size)∧es.toList.map (fun e=>(e.key,e.val))=L.map kmV∧(∀ (i:Nat) (e:MapEntry),es[i]? =some e->e.born=i)∧(∀ p∈L,SFit p.1)∧(L.map (·.1)).Nodup
theorem kmap_made(w:World):KMap (w.alloc (.map #[] 0)) w.heap.size []:=
 ⟨#[],by show(w.heap.push _)[w.heap.size]? =_;simp,rfl,by simp,by simp,by simp⟩
theorem kgrown_block(w:World)(r:Nat)(o:Obj):w.grownBy (setBlock w r o) (some r):=
 ⟨rfl,rfl,rfl,by simp [setBlock],fun k hk hne=>by simp only [setBlock];rw [Array.getElem?_setIfInBounds_ne (fun e=>hne (by rw [e]))]⟩
section
variable {w:World}{r:Nat}{L:List (SK×Value)}{t e:TypeId}
theorem KMap.lt(h:KMap w r L):r<w.heap.size:=by
 obtain⟨es,hb,_⟩:=h;exact(Array.getElem?_eq_some_iff.1 hb).1
theorem KMap.kept{w':World}(h:KMap w r L)(hb:w'.heap[r]? =w.heap[r]?):KMap w' r L:=by
 obtain⟨es,h1,h2⟩:=h;exact⟨es,hb.trans h1,h2⟩
theorem km_at{es:Array MapEntry}(h:es.toList.map (fun e=>(e.key,e.val))=L.map kmV){j:Nat}{x:MapEntry}(hx:es.toList[j]? =some x):∃ p,L[j]? =some p∧x.key=skV p.1∧x.val=p.2:=by
 have:=congrArg (fun l=>l[j]?) h;simp only [List.getElem?_map,hx,Option.map_some] at this
 cases e:L[j]? with
 |none=>rw [e] at this;cases this
 |some p=>
  rw [e] at this;simp only [Option.map_some,kmV,Option.some.injEq,Prod.mk.injEq] at this;exact⟨p,rfl,this.1,this.2⟩
theorem km_len{es:Array MapEntry}(h:es.toList.map (fun e=>(e.key,e.val))=L.map kmV):es.size=L.length:=by
 have:=congrArg List.length h;simpa using this
theorem born_nd{es:Array MapEntry}(h:∀ (i:Nat) (e:MapEntry),es[i]? =some e->e.born=i):(es.toList.map (·.born)).Nodup:=by
 have e:es.toList.map (·.born)=List.range es.size:=by
  apply List.ext_getElem?;intro i;rw [List.getElem?_map]
  rcases Nat.lt_or_ge i es.size with hi|hi
  ·have h1:es.toList[i]? =some es[i]:=by simp [hi]
   rw [h1,List.getElem?_range hi,Option.map_some,h i es[i] (by simp [hi])]
  ·rw [List.getElem?_eq_none (by simpa using hi),List.getElem?_eq_none (by simpa using hi)];rfl
 rw [e];exact List.nodup_range
theorem KMap.entry(h:KMap w r L)(ht:Tryz.prog.underlying t=some (.map 130 e))(hz:∀ u:World,(zeroValue e).run Tryz.prog u=.ok (.slice none 0 0) u){x:SK}(hx:SFit x):
 ∃ (v:Value) (j:Nat) (w':World) (L':List (SK×Value)),(Instr.mapEntry t (.map (some r)) (skV x)).run Tryz.prog w=.ok (.tuple #[v,.int .i64 (j:Int)]) w'∧w.grownBy w' (some r)∧w'.heap.size=w.heap.size∧KMap w' r L'∧L'[j]? =some (x,v)∧(L'=L∨((∀ p∈L,p.1≠x)∧j=L.length∧v=.slice none 0 0∧L'=L++[(x,.slice none 0 0)])):=by
 have K:=sk_law;obtain⟨kl,hkey⟩:=sk_key hx;have hlt:=h.lt;obtain⟨es,hb,hes,hbo,hwf,hnd⟩:=h;have hlen:=km_len hes
 rcases K.find w hkey es.toList (fun y hy=>by
  obtain⟨j,hj,rfl⟩:=List.mem_iff_getElem.1 hy;obtain⟨p,hp,h1,_⟩:=km_at hes (List.getElem?_eq_getElem hj);rw [h1]
  exact sk_key (hwf p (List.mem_of_getElem? hp))) with⟨h1,h2⟩|⟨j,e0,h1,h2,h3⟩
 ·have hno:∀ p∈L,p.1≠x:=by
   intro p hp e1;obtain⟨j,hj,rfl⟩:=List.mem_iff_getElem.1 hp;have hje:j<es.size:=by omega
   obtain⟨q,hq,h4,_⟩:=km_at hes (j:=j) (x:=es[j]) (by simp [hje]);rw [List.getElem?_eq_getElem hj] at hq;obtain rfl:=Option.some.inj hq;exact h2 es[j] (by simp) (by rw [h4,e1])
  refine⟨.slice none 0 0,es.size,setBlock w r (.map (es.push ⟨skV x,.slice none 0 0,es.size⟩) (es.size+1)),L++[(x,.slice none 0 0)],?_,kgrown_block _ _ _,by simp [setBlock],⟨es.push ⟨skV x,.slice none 0 0,es.size⟩,?_,?_,?_,?_,?_⟩,?_,.inr ⟨hno,hlen,rfl,rfl⟩⟩
  ·simp [Instr.mapEntry,run_underlying ht,MapKept.run_getObj_map hb,K.check w false hkey,h1,hz,MapKept.run_setObj_map _ hb,Result.andThen,setBlock,goInt]
  ·simp [setBlock,hlt]
  ·rw [Array.toList_push,List.map_append,hes,List.map_append];rfl
  ·intro i e hi;rw [Array.getElem?_push] at hi
   split at hi
   ·rename_i hs;obtain rfl:=Option.some.inj hi;exact hs.symm
   ·exact hbo i e hi
  ·intro p hp
   rcases List.mem_append.1 hp with hp|hp
   ·exact hwf p hp
   ·simp at hp;subst hp;exact hx
  ·rw [List.map_append,List.nodup_append];refine⟨hnd,by simp,?_⟩;intro a ha b hb2;simp at hb2;subst hb2;obtain⟨p,hp,rfl⟩:=List.mem_map.1 ha;exact hno p hp
  ·rw [hlen];simp
 ·have hj:es[j]? =some e0:=by simpa using h2
  obtain⟨p,hp,h4,h5⟩:=km_at hes h2;have hpx:p.1=x:=skV_inj (h4.symm.trans h3)
  have hsame:es.modify j (fun e=>{e with key:=skV x})=es:=by
   apply Array.ext';rw [Array.toList_modify,Go.ChangeMaps.modify_eq_set _ _ _ _ h2];have:({e0 with key:=skV x}:MapEntry)=e0:=by rw [<- h3]
   rw [this];exact Go.WideElems.set_self _ _ _ h2
  refine⟨e0.val,j,setBlock w r (.map es es.size),L,?_,kgrown_block _ _ _,by simp [setBlock],⟨es,by simp [setBlock,hlt],hes,hbo,hwf,hnd⟩,?_,.inl rfl⟩
  ·simp [Instr.mapEntry,run_underlying ht,MapKept.run_getObj_map hb,K.check w false hkey,h1,hj,h3,K.stays w hkey,hsame,MapKept.run_setObj_map _ hb,Result.andThen,setBlock,goInt,hbo j e0 hj]
  ·rw [hp,h5,<- hpx]
theorem KMap.store(h:KMap w r L){j:Nat}{x:SK}{v0:Value}(hj:L[j]? =some (x,v0))(v:Value):
 ∃ w',(Instr.entryStore t (.map (some r)) (.int .i64 (j:Int)) v).run Tryz.prog w=.ok () w'∧w.grownBy w' (some r)∧w'.heap.size=w.heap.size∧KMap w' r (L.set j (x,v)):=by
 have hlt:=h.lt;obtain⟨es,hb,hes,hbo,hwf,hnd⟩:=h;have hlen:=km_len hes;have hjl:j<L.length:=(List.getElem?_eq_some_iff.1 hj).1;have hje:j<es.size:=by omega
 obtain⟨e0,h2⟩:∃ e0,es[j]? =some e0:=⟨es[j],by simp [hje]⟩;have h2l:es.toList[j]? =some e0:=by simpa using h2
 obtain⟨p,hp,h4,h5⟩:=km_at hes h2l;rw [hj] at hp;obtain rfl:=Option.some.inj hp
 have hidx:es.findIdx? (fun e=>((e.born:Nat):Int)==((j:Nat):Int))=some j:=by
  rw [Go.WideElems.findIdx_arr];have:=Go.WideElems.findIdx_born (born_nd hbo) h2l
  rwa [hbo j e0 h2] at this
 refine⟨setBlock w r (.map (es.modify j fun e=>{e with val:=v}) (es.modify j fun e=>{e with val:=v}).size),?_,kgrown_block _ _ _,by simp [setBlock],⟨es.modify j (fun e=>{e with val:=v}),by simp [setBlock,hlt],?_,?_,?_,?_⟩⟩
 ·simp [Instr.entryStore,MapKept.run_getObj_map hb,asInt,asIntOf,hidx,MapKept.run_setObj_map _ hb,Result.andThen,setBlock]
 ·rw [Array.toList_modify,Go.ChangeMaps.modify_eq_set _ _ _ _ h2l,List.map_set,List.map_set,hes];rw [h4];rfl
 ·intro i e hi;rw [Array.getElem?_modify] at hi
  split at hi
  ·rename_i hij;subst hij;rw [h2] at hi;simp at hi;subst hi;exact hbo j e0 h2
  ·exact hbo i e hi
 ·intro p hp
  rcases List.mem_or_eq_of_mem_set hp with hp|rfl
  ·exact hwf p hp
  ·exact hwf (x,v0) (List.mem_of_getElem? hj)
 ·rw [List.map_set];have:(L.map (·.1)).set j x=L.map (·.1):=Go.WideElems.set_self _ _ _ (by rw [List.getElem?_map,hj];rfl);rw [this];exact hnd
theorem KMap.next(h:KMap w r L)(ty:TypeId){it c0:Nat}{seen:Array Nat}(hi:w.heap[it]? =some (.mapIter (some r) L.length seen c0))(hc:L.length<=c0)(hne:r≠it):
 ((∀ i,i<L.length->i∈seen.toList)∧(Instr.next (.pointer (some ⟨it,0,none⟩)) false ty).run Tryz.prog w=.ok (.tuple #[.bool false]) w)∨
 ∃ (i:Nat) (x:SK) (v:Value) (w':World),L[i]? =some (x,v)∧i∉seen.toList∧(Instr.next (.pointer (some ⟨it,0,none⟩)) false ty).run Tryz.prog w=.ok (.tuple #[.bool true,skV x,v]) w'∧w.grownBy w' (some it)∧w'.heap.size=w.heap.size∧KMap w' r L∧w'.heap[it]? =some (.mapIter (some r) L.length (seen.push i) L.length)∧(Instr.entry (.pointer (some ⟨it,0,none⟩))).run Tryz.prog w'=.ok (.tuple #[skV x,v]) w':=by
 have hK:=h;obtain⟨es,hb,hes,hbo,hwf,hnd⟩:=h;have hlen:=km_len hes;have hit:it<w.heap.size:=(Array.getElem?_eq_some_iff.1 hi).1
 have hall:∀ x∈es.toList,x.born<L.length:=by
  intro x hx;obtain⟨i,hi2,rfl⟩:=List.mem_iff_getElem.1 hx;have:=hbo i es.toList[i] (by simp);simp at hi2;omega
 rcases run_next_at (P:=Tryz.prog) w ty it r L.length c0 seen es es.size hi hb hall hc with⟨h0,hrun⟩|⟨e0,he,w1,hw1,hrun⟩
 ·refine .inl ⟨fun i hil=>?_,hrun⟩;have hie:i<es.size:=by omega
  have hm:es[i]∈es.toList:=by simp
  rcases Classical.em (i∈seen.toList) with hs|hs
  ·exact hs
  ·exfalso
   have:es[i]∈(leftOf es seen).toList:=by
    simp only [leftOf,Array.toList_filter,List.mem_filter];refine⟨hm,?_⟩;rw [hbo i es[i] (by simp [hie])];simpa using hs
   have h9:=List.length_pos_of_mem this;simp only [Array.length_toList] at h9;omega
 ·simp only [leftOf,Array.toList_filter,List.mem_filter] at he;obtain⟨i,hil,hie⟩:=List.mem_iff_getElem.1 he.1;have hil2:i<es.size:=by simpa using hil
  have hei:es.toList[i]? =some e0:=by rw [List.getElem?_eq_getElem hil,hie]
  have hborn:e0.born=i:=hbo i e0 (by simpa using hei);obtain⟨p,hp,h4,h5⟩:=km_at hes hei;have h1e:w1.heap=w.heap:=by rcases hw1 with rfl|rfl<;>rfl
  have hit1:it<w1.heap.size:=by rw [h1e];exact hit
  have hW:w.grownBy (setBlock w1 it (.mapIter (some r) L.length (seen.push e0.born) es.size)) (some it):=by
   have g:=kgrown_block w1 it (.mapIter (some r) L.length (seen.push e0.born) es.size)
   rcases hw1 with rfl|rfl
   ·exact g
   ·exact⟨g.os,g.tape,g.output,g.size,g.block⟩
  have hbw:(setBlock w1 it (.mapIter (some r) L.length (seen.push e0.born) es.size)).heap[r]? =some (.map es es.size):=(hW.block r hK.lt (by simpa using hne)).trans hb;have hiw:(setBlock w1 it (.mapIter (some r) L.length (seen.push e0.born) es.size)).heap[it]? =some (.mapIter (some r) L.length (seen.push e0.born) es.size):=by simp [setBlock,hit1]
  refine .inr ⟨i,p.1,p.2,_,hp,?_,by rw [hrun,h4,h5],hW,by simp [setBlock,h1e],hK.kept (hW.block r hK.lt (by simpa using hne)),by rw [hiw,hborn,hlen],?_⟩
  ·have:=he.2;rw [hborn] at this;simpa using this
  ·rw [run_entry_at _ it r L.length seen es es.size e0 hiw hbw he.1 (born_nd hbo),h4,h5]
end
end Go.Proofs.YtaceiajcecaapaaGreat
namespace Go.Proofs.YtaceiajcecaapaaGreat
open Go.RowKit
set_option linter.unusedVariables false
set_option maxRecDepth 100000 in
set_option maxHeartbeats 800000 in
theorem szSet_any(s:Sz)(dv:Value)(L:Int)(w:World)(h:Nm.SRow w dv s.da)(h0:0<=L)(h1:L<=1048576)(ho:s.own.size<=maxLen)(hd:∀ x∈s.da,x.size<=maxLen):
 Calls Tryz.prog 24 #[.agg #[.string s.own,.int .i64 s.ty,.int .i64 s.tt,dv],.int .i64 L] w fun e w'=>e=.returned (.int .i64 (szZ1 s L))∧Below w.heap.size w w':=by
 unfold maxLen at ho;have hB:=(Below.refl w.heap.size w).alloc (Nat.le_refl _) (.cells #[.string s.own,.int .i64 s.ty,.int .i64 s.tt,dv] 58);have hcall:=fun K h0 h1=>szStringS_any dv s.da K _ (h.below hB) hd h0 h1
 obtain⟨a,cap,rfl,_⟩:=h;obtain⟨o,ty,tt,da⟩:=s;simp only at*
 by_cases hm:L-o.size<0
 ·have HS:Hid (szZ1 ⟨o,ty,tt,da⟩ L= -1):=if_neg (by simp only [zs1];omega);clear hcall hd;go_enter Tryz.func24,Tryz.ntmps24;go_wp2;go_ret;rw [HS.out];exact⟨rfl,hB⟩
 ·have hm':0<=L-o.size:=by omega
  have hone:=hcall (L-o.size) hm' (by omega);clear hcall hd
  by_cases hn:(da.length:Int)+(ssum da:Int)<=L-o.size
  ·have HS:Hid (szZ1 ⟨o,ty,tt,da⟩ L=L-o.size-da.length-ssum da):=by
    show _=_
    rw [szZ1,if_pos (by simp only [zs1];omega)];simp only [zs1];omega
   have e1:szS da (L-o.size)=L-o.size-da.length-ssum da:=if_pos hn;have hnn:0<=L-o.size-da.length-ssum da:=by omega
   rw [e1] at hone;clear e1 hn;generalize (L-(o.size:Int)-(da.length:Int)-(ssum da:Int))=L2 at*;go_enter Tryz.func24,Tryz.ntmps24;go_wp2_with (go_at_call 42;refine hone.mono ?_;rintro e w1 ⟨rfl,rfl⟩)
   go_ret;rw [HS.out];exact⟨rfl,hB⟩
  ·have HS:Hid (szZ1 ⟨o,ty,tt,da⟩ L= -1):=if_neg (by simp only [zs1];omega);have e1:szS da (L-o.size)= -1:=if_neg hn;rw [e1] at hone;clear e1 hn;go_enter Tryz.func24,Tryz.ntmps24;go_wp2_with (go_at_call 42;refine hone.mono ?_;rintro e w1 ⟨rfl,rfl⟩)
   go_ret;rw [HS.out];exact⟨rfl,hB⟩
set_option maxRecDepth 100000 in
set_option maxHeartbeats 1600000 in
theorem szSetS_any(v:Value)(ps:List Zp)(L:Int)(w:World)(h:ZRow w v ps)(hx:ZFit ps)(h0:0<=L)(h1:L<=1048576):
 Calls Tryz.prog 12 #[v,.int .i64 L] w fun e w'=>e=.returned (.int .i64 (szZS ps L))∧Below w.heap.size w w':=by
 obtain⟨⟨_,a,cap,rfl,hcap,hmx,hc⟩,hd⟩:=h;unfold maxLen at hmx
 by_cases hm:L<ps.length
 ·have HS:Hid (szZS ps L= -1):=if_neg (by omega);have hm':L-(ps.length:Int)<0:=by omega
  clear hx hc hd;go_enter Tryz.func12,Tryz.ntmps12;go_wp2;go_ret;rw [HS.out];exact⟨rfl,Below.refl _ _⟩
 ·have hl:(ps.length:Int)<=1048576:=by omega
  have hm':(0:Int)<=L-(ps.length:Int):=by omega
  have hsz:=fun(p:Zp) (hp:p∈ps) (K:Int) (W:World) (hW:Below w.heap.size w W) (h0:0<=K) (h1:K<=1048576)=>szSet_any p.1 p.2 K W ((hd p hp).below hW) h0 h1 (hx p hp).1 (hx p hp).2
  clear hd;go_enter Tryz.func12,Tryz.ntmps12;go_wp2
  go_loopw [1,5] (fun t i wr=>∃ k:Nat,k<=ps.length∧i=.int .i64 k∧t=.int .i64 (L-ps.length-zsum (ps.take k))∧Hid ((ps.length:Int)+zsum (ps.take k)<=L)∧Below w.heap.size w wr) (fun _ i _=>ps.length-(intOf i).toNat)
  case atStart=>exact⟨0,Nat.zero_le _,rfl,by simp [zsum],by show _<=L;simp [zsum];omega,Below.refl _ _⟩
  case round=>
   obtain⟨k,hk,rfl,rfl,hle,hbel⟩:=hrel
   by_cases hlt:k<ps.length
   ·obtain⟨x,hxk⟩:∃ x,ps[k]? =some x:=⟨_,List.getElem?_eq_getElem hlt⟩;obtain⟨b,off,rfl,hcell⟩:=hc (by omega);obtain⟨c0,c1,c2,c3⟩:=zp_cells hcell hxk;have put:∀ {O:Nat} {z:Value},w.cell? ⟨b,O,none⟩=some z->wr.cell? ⟨b,O,none⟩=some z:=fun h=>(hbel.cell (World.block_lt_of_cell? w _ h)).trans h
    replace c0:=put c0
    replace c1:=put c1
    replace c2:=put c2
    replace c3:=put c3
    have HS:Hid (zsum (ps.take (k+1))=zsum (ps.take k)+zs1 x.1):=zsum_step ps k x hxk;have hs1:Hid (zsum (ps.take (k+1))<=zsum ps):=zsum_take_le ps (k+1);have hone:=hsz x (List.mem_of_getElem? hxk) (L-ps.length-zsum (ps.take k)) wr hbel (by have:=hle.out;omega) (by omega);have i1:(0:Int)<=(k:Int):=by omega
    have i2:(k:Int)<(ps.length:Int):=by omega
    by_cases hb:(zs1 x.1:Int)<=L-ps.length-zsum (ps.take k)
    ·have e1:szZ1 x.1 (L-ps.length-zsum (ps.take k))=L-ps.length-zsum (ps.take (k+1)):=by
      have:=HS.out;rw [szZ1,if_pos hb];omega
     have hnn:0<=L-(ps.length:Int)-zsum (ps.take (k+1)):=by have:=HS.out;omega
     have hle2:Hid ((ps.length:Int)+zsum (ps.take (k+1))<=L):=by show _<=L;omega
     rw [e1] at hone;clear hxk hcell hc hx hsz HS hb e1 hs1;generalize hL2:(L-(ps.length:Int)-(zsum (ps.take (k+1)):Int))=L2 at*;generalize (L-(ps.length:Int)-(zsum (ps.take k):Int))=L1 at*;go_wp2_with (go_at_call 24;refine hone.mono ?_;rintro e w1 ⟨rfl,hb1⟩)
     go_roundw
     case rel=>exact⟨k+1,by omega,by go_num,by rw [hL2],hle2,Nm.below_two hbel hb1⟩
     case measure=>simp [intOf];omega
    ·have HZ:Hid (szZS ps L= -1):=if_neg (by have:=HS.out;have:=hs1.out;omega);have e1:szZ1 x.1 (L-ps.length-zsum (ps.take k))= -1:=if_neg hb;rw [e1] at hone;clear hxk hcell hc hx hsz HS hb e1 hs1;generalize (L-(ps.length:Int)-(zsum (ps.take k):Int))=L1 at*;go_wp2_with (go_at_call 24;refine hone.mono ?_;rintro e w1 ⟨rfl,hb1⟩)
     go_ret;rw [HZ.out];exact⟨rfl,Nm.below_two hbel hb1⟩
   ·have hkl:k=ps.length:=by omega
    have HZ:Hid (szZS ps L=L-ps.length-zsum (ps.take k)):=by
     have:=hle.out;rw [hkl,List.take_length] at this ⊢;exact if_pos this
    have i2:(ps.length:Int)<=(k:Int):=by omega
    clear hc hx hsz;generalize (L-(ps.length:Int)-(zsum (ps.take k):Int))=L1 at*;go_wp2;go_ret;rw [HZ.out];exact⟨rfl,hbel⟩
set_option maxRecDepth 100000 in
set_option maxHeartbeats 1600000 in
theorem szZone_any(o:ByteArray)(v:Value)(ps:List Zp)(L:Int)(w:World)(h:ZRow w v ps)(hx:ZFit ps)(ho:o.size<=maxLen)(h0:0<=L)(h1:L<=1048576):
 Calls Tryz.prog 4 #[.agg #[.string o,v],.int .i64 L] w fun e w'=>e=.returned (.int .i64 (szZ o ps L))∧Below w.heap.size w w':=by
 unfold maxLen at ho;have hB:=(Below.refl w.heap.size w).alloc (Nat.le_refl _) (.cells #[.string o,v] 24);have hcall:=fun K h0 h1=>szSetS_any v ps K _ (h.below hB) hx h0 h1
 obtain⟨⟨_,a,cap,rfl,_⟩,_⟩:=h;clear hx
 by_cases hm:L-o.size<0
 ·have HS:Hid (szZ o ps L= -1):=if_neg (by omega);clear hcall;go_enter Tryz.func4,Tryz.ntmps4;go_wp2;go_ret;rw [HS.out];exact⟨rfl,hB⟩
 ·have hm':0<=L-o.size:=by omega
  have hone:=hcall (L-o.size) hm' (by omega);clear hcall
  by_cases hn:(ps.length:Int)+(zsum ps:Int)<=L-o.size
  ·have HS:Hid (szZ o ps L=L-o.size-ps.length-zsum ps):=if_pos (by omega);have e1:szZS ps (L-o.size)=L-o.size-ps.length-zsum ps:=if_pos hn;have hnn:0<=L-o.size-ps.length-zsum ps:=by omega
   rw [e1] at hone;clear e1 hn;generalize (L-(o.size:Int)-(ps.length:Int)-(zsum ps:Int))=L2 at*;go_enter Tryz.func4,Tryz.ntmps4;go_wp2_with (go_at_call 12;refine hone.mono ?_;rintro e w1 ⟨rfl,hb1⟩)
   go_ret;rw [HS.out];exact⟨rfl,Nm.below_two hB hb1⟩
  ·have HS:Hid (szZ o ps L= -1):=if_neg (by omega);have e1:szZS ps (L-o.size)= -1:=if_neg hn;rw [e1] at hone;clear e1 hn;go_enter Tryz.func4,Tryz.ntmps4;go_wp2_with (go_at_call 12;refine hone.mono ?_;rintro e w1 ⟨rfl,hb1⟩)
   go_ret;rw [HS.out];exact⟨rfl,Nm.below_two hB hb1⟩
theorem strz_ne(s:ByteArray):(s.toList != s.toList)=false∧(s.toList==s.toList)=true:=by simp
set_option maxRecDepth 100000 in
set_option maxHeartbeats 800000 in
theorem eqSet_any(s:Sz)(dv du:Value)(w:World)(h:Nm.SRow w dv s.da)(h':Nm.SRow w du s.da)(hl:s.da.length<=1000000000):
 Calls Tryz.prog 41 #[.agg #[.string s.own,.int .i64 s.ty,.int .i64 s.tt,dv],.agg #[.string s.own,.int .i64 s.ty,.int .i64 s.tt,du]] w fun e w'=>e=.returned (.bool true)∧Below w.heap.size w w':=by
 obtain⟨o,ty,tt,da⟩:=s;simp only at*
 have e1:(ty != ty)=false:=by simp
 have e2:(tt != tt)=false:=by simp
 obtain⟨e3,e4⟩:=strz_ne o;have hB:=((Below.refl w.heap.size w).alloc (Nat.le_refl _) (.cells #[.string o,.int .i64 ty,.int .i64 tt,dv] 65)).alloc (by simp) (.cells #[.string o,.int .i64 ty,.int .i64 tt,du] 65);have hone:=eqStringS_any dv du da _ (h.below hB) (h'.below hB) hl;obtain⟨a,cap,rfl,_⟩:=h;obtain⟨a',cap',rfl,_⟩:=h';go_enter Tryz.func41,Tryz.ntmps41;go_wp2_with (go_at_call 91;refine hone.mono ?_;rintro e w1 ⟨rfl,hb1⟩)
 go_ret;exact⟨rfl,Nm.below_two hB hb1⟩
set_option maxRecDepth 100000 in
set_option maxHeartbeats 1600000 in
theorem eqSetS_any(v u:Value)(qs rs:List Zp)(w:World)(h:ZRow w v qs)(h':ZRow w u rs)(he:qs.map (·.1)=rs.map (·.1))(hd:∀ q∈qs,q.1.da.length<=1000000000):
 Calls Tryz.prog 22 #[v,u] w fun e w'=>e=.returned (.bool true)∧Below w.heap.size w w':=by
 have hlen:rs.length=qs.length:=by have:=congrArg List.length he;simpa using this.symm
 obtain⟨⟨_,a,cap,rfl,hcap,hmx,hc⟩,hq⟩:=h;obtain⟨⟨_,a',cap',rfl,hcap',hmx',hc'⟩,hr⟩:=h';unfold maxLen at hmx hmx';rw [hlen] at hcap' hc' ⊢;have hne:((qs.length:Int) != (qs.length:Int))=false:=by simp
 go_enter Tryz.func22,Tryz.ntmps22;go_wp2
 go_loopw [5] (fun i wr=>∃ k:Nat,k<=qs.length∧i=.int .i64 k∧Below w.heap.size w wr) (fun i _=>qs.length-(intOf i).toNat)
 case atStart=>exact⟨0,Nat.zero_le _,rfl,Below.refl _ _⟩
 case round=>
  obtain⟨k,hk,rfl,hbel⟩:=hrel
  by_cases hlt:k<qs.length
  ·obtain⟨x,hx⟩:∃ x,qs[k]? =some x:=⟨_,List.getElem?_eq_getElem hlt⟩;obtain⟨y,hy⟩:∃ y,rs[k]? =some y:=⟨_,List.getElem?_eq_getElem (by omega)⟩
   have hxy:y.1=x.1:=by
    have:=congrArg (fun l=>l[k]?) he;simp [hx,hy] at this
    exact this.symm
   obtain⟨b,off,rfl,hcell⟩:=hc (by omega);obtain⟨b',off',rfl,hcell'⟩:=hc' (by omega);have R1:=zp_cells hcell hx;have R2:=zp_cells hcell' hy;have s1:=hq x (List.mem_of_getElem? hx);have s2:=hr y (List.mem_of_getElem? hy);have hdl:=hd x (List.mem_of_getElem? hx);rw [hxy] at R2 s2;obtain⟨s,dv⟩:=x;obtain⟨s',du⟩:=y;simp only at hxy R1 R2 s1 s2 hdl
   have heq:=fun W (hW:Below w.heap.size w W)=>(eqSet_any s dv du W (s1.below hW) (s2.below hW) hdl).mono (R':=fun e w'=>e=.returned (.bool true)∧Below w.heap.size w w') (by rintro e w' ⟨he,hb⟩;exact⟨he,hW.trans (hb.mono hW.size)⟩)
   obtain⟨o,ty,tt,da⟩:=s;simp only at R1 R2 heq
   have hS:∀ W,Below w.heap.size w W->((W.cell? ⟨b,off+k*4,none⟩=some (.string o)∧W.cell? ⟨b,off+k*4+1,none⟩=some (.int .i64 ty)∧W.cell? ⟨b,off+k*4+2,none⟩=some (.int .i64 tt)∧W.cell? ⟨b,off+k*4+3,none⟩=some dv)∧(W.cell? ⟨b',off'+k*4,none⟩=some (.string o)∧W.cell? ⟨b',off'+k*4+1,none⟩=some (.int .i64 ty)∧W.cell? ⟨b',off'+k*4+2,none⟩=some (.int .i64 tt)∧W.cell? ⟨b',off'+k*4+3,none⟩=some du))∧Below w.heap.size w W:=by
    intro W hW;have put:∀ {B O:Nat} {z:Value},w.cell? ⟨B,O,none⟩=some z->W.cell? ⟨B,O,none⟩=some z:=fun h=>(hW.cell (World.block_lt_of_cell? w _ h)).trans h
    exact⟨⟨⟨put R1.1,put R1.2.1,put R1.2.2.1,put R1.2.2.2⟩,⟨put R2.1,put R2.2.1,put R2.2.2.1,put R2.2.2.2⟩⟩,hW⟩
   have hS0:=hS wr.drew hbel.drew;have i1:(0:Int)<=(k:Int):=by omega
   have i2:(k:Int)<(qs.length:Int):=by omega
   clear hc hc' hcell hcell' hx hy R1 R2 s1 s2 hq hr he hd;go_wp2;go_region_held3 (fun W=>((W.cell? ⟨b,off+k*4,none⟩=some (.string o)∧W.cell? ⟨b,off+k*4+1,none⟩=some (.int .i64 ty)∧W.cell? ⟨b,off+k*4+2,none⟩=some (.int .i64 tt)∧W.cell? ⟨b,off+k*4+3,none⟩=some dv)∧(W.cell? ⟨b',off'+k*4,none⟩=some (.string o)∧W.cell? ⟨b',off'+k*4+1,none⟩=some (.int .i64 ty)∧W.cell? ⟨b',off'+k*4+2,none⟩=some (.int .i64 tt)∧W.cell? ⟨b',off'+k*4+3,none⟩=some du))∧Below w.heap.size w W) (first|with_reducible assumption|with_reducible exact hS0) ((first|(go_at_call 41;refine(heq _ hS0.2).mono ?_;rintro e w' ⟨rfl,hb1⟩;have hS1:=hS _ hb1)))
   go_wp2;go_roundw
   case rel=>exact⟨k+1,by omega,by go_num,hS1.2⟩
   case measure=>simp [intOf];omega
  ·clear hc hc' hq hr;have i2:(qs.length:Int)<=(k:Int):=by omega
   go_wp2;go_ret;exact⟨rfl,hbel⟩
set_option maxRecDepth 100000 in
set_option maxHeartbeats 800000 in
theorem eqZone_any(o:ByteArray)(v u:Value)(qs rs:List Zp)(w:World)(h:ZRow w v qs)(h':ZRow w u rs)(he:qs.map (·.1)=rs.map (·.1))(hd:∀ q∈qs,q.1.da.length<=1000000000):
 Calls Tryz.prog 10 #[.agg #[.string o,v],.agg #[.string o,u]] w fun e w'=>e=.returned (.bool true)∧Below w.heap.size w w':=by
 obtain⟨e3,e4⟩:=strz_ne o;have hB:=((Below.refl w.heap.size w).alloc (Nat.le_refl _) (.cells #[.string o,v] 32)).alloc (by simp) (.cells #[.string o,u] 32);have hone:=eqSetS_any v u qs rs _ (h.below hB) (h'.below hB) he hd;obtain⟨⟨_,a,cap,rfl,_⟩,_⟩:=h;obtain⟨⟨_,a',cap',rfl,_⟩,_⟩:=h';clear he hd;go_enter Tryz.func10,Tryz.ntmps10;go_wp2_with (go_at_call 22;refine hone.mono ?_;rintro e w1 ⟨rfl,hb1⟩)
 go_ret;exact⟨rfl,Nm.below_two hB hb1⟩
end Go.Proofs.YtaceiajcecaapaaGreat
