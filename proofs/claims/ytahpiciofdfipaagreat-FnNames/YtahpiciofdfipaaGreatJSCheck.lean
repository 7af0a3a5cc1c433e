import Derived.Test.YtahpiciofdfipaaGreatParts
import Derived.Test.YtahpiciofdfipaaGreatJCmpM
import Derived.Test.YtahpiciofdfipaaGreatJUnderM
import Derived.Test.YtahpiciofdfipaaGreatJTbPL
import Derived.Test.YtahpiciofdfipaaGreatJOwnT
import Derived.Test.YtahpiciofdfipaaGreatJNameOKs
import Derived.RegionTactic
import Derived.BigRegion
import Derived.Deep.RegionHeld3
namespace Go.Proofs.YtahpiciofdfipaaGreat
open Go.RowKit
theorem okForm_of{f:ByteArray}(h1:f.size<=100)(h2:f.data.toList.all (fun c=>c==110||c==98||c==116||c==115||c==99||c==109||c==42)=true):okForm f:=by
 refine⟨h1,?_⟩;intro k hk;have:=List.all_eq_true.1 h2 f[k] (List.mem_of_getElem? (Nm.get_data hk));simpa [or_assoc] using this
theorem form_ok(t:Int):okForm (Dt.formS t):=by
 unfold Dt.formS
 repeat' split
 all_goals exact okForm_of (by decide) (by decide)
theorem parts_some{t:Int}{d:ByteArray}:(Dt.parts (Dt.specP t) d).isSome=(Dt.spans (Dt.implP t) 0 d).isSome:=by
 rw [<- Dt.forms_agree,Dt.spans_of_parts];simp
set_option maxRecDepth 100000 in
set_option maxHeartbeats 400000 in
theorem specCheckData_any(t:Int)(d:ByteArray)(w:World):
 Calls Tryz.prog 66 #[.int .i64 t,.string d] w fun e w'=>e=.returned (.int .i64 (cutCode t d))∧Below w.heap.size w w':=by
 by_cases ht:t<0∨65535<t
 ·have HC:=Nm.hide (code_type (d:=d) ht)
  by_cases ht0:t<0
  ·clear ht;go_enter Tryz.func66,Tryz.ntmps66;go_wp2;go_ret;rw [HC.out.1];exact⟨rfl,Below.refl _ _⟩
  ·have ht1:65535<t:=by omega
   have ht2:0<=t:=by omega
   clear ht;go_enter Tryz.func66,Tryz.ntmps66;go_wp2;go_ret;rw [HC.out.1];exact⟨rfl,Below.refl _ _⟩
 have ht0:0<=t:=by omega
 have ht1:t<=65535:=by omega
 by_cases hl:65535<d.size
 ·have HC:=Nm.hide (code_long ht hl);have hl':(65535:Int)<(d.size:Int):=by omega
  clear ht;go_enter Tryz.func66,Tryz.ntmps66;go_wp2;go_ret;rw [HC.out.1];exact⟨rfl,Below.refl _ _⟩
 have hl':(d.size:Int)<=65535:=by omega
 have hcall:=fun w=>l02Parts_any (Dt.formS t) d w (form_ok t) (by omega)
 have hform:=l02Form_any t;have hps:=parts_some (t:=t) (d:=d);rw [Dt.specP] at hps;rw [hps] at hcall;generalize Dt.formS t=f at*
 cases hq:Dt.spans (Dt.implP t) 0 d with
 |none=>
  have HC:=Nm.hide (code_none ht hl hq);rw [hq] at hcall;clear ht hl hq hps;go_enter Tryz.func66,Tryz.ntmps66;go_wp2_with (first|(go_at_call 67;refine(hform _).mono ?_;rintro e w1 ⟨rfl,hw⟩;obtain rfl:w=w1:=hw.symm;clear hw)|(go_at_call 68;refine(hcall _).mono ?_;rintro e w2 ⟨v,rfl,_,hbel⟩))
  go_ret;rw [HC.out.1]
  exact⟨rfl,hbel⟩
 |some sp=>
  have HC:=Nm.hide (code_some ht hl hq);rw [hq] at hcall;clear ht hl hq hps;go_enter Tryz.func66,Tryz.ntmps66;go_wp2_with (first|(go_at_call 67;refine(hform _).mono ?_;rintro e w1 ⟨rfl,hw⟩;obtain rfl:w=w1:=hw.symm;clear hw)|(go_at_call 68;refine(hcall _).mono ?_;rintro e w2 ⟨v,rfl,_,hbel⟩))
  go_ret;rw [HC.out.1];exact⟨rfl,hbel⟩
end Go.Proofs.YtahpiciofdfipaaGreat
namespace Go.Proofs.YtahpiciofdfipaaGreat
open Go.RowKit
set_option linter.unusedVariables false
def befI(a b:It):Bool:=if a.fo=b.fo then(if a.r.ty=b.r.ty then Op.bytesLess a.dt.toList b.dt.toList else decide (a.r.ty<b.r.ty)) else decide (Nm.cmpS a.fo b.fo<0)
set_option maxRecDepth 100000 in
set_option maxHeartbeats 1600000 in
theorem l06Before_any(a b:It)(w:World)(ha:a.fo.size<=maxLen)(hb:b.fo.size<=maxLen):
 Calls Tryz.prog 71 #[.agg (itC a).toArray,.agg (itC b).toArray] w fun e w'=>e=.returned (.bool (befI a b))∧Below w.heap.size w w':=by
 have hB:=((Below.refl w.heap.size w).alloc (Nat.le_refl _) (.cells (itC a).toArray 82)).alloc (by simp) (.cells (itC b).toArray 82);have hcm:=fun W=>specCompareNames_any a.fo b.fo W ha hb
 have e0:=ba_eq a.fo b.fo;obtain⟨Q,hQ⟩:∃ Q,Q=befI a b:=⟨_,rfl⟩;rw [<- hQ];unfold befI at hQ;obtain⟨⟨o,ty,cl,tt,da⟩,f1,d1,ou⟩:=a;obtain⟨⟨o2,ty2,cl2,tt2,da2⟩,f2,d2,ou2⟩:=b;simp only [itC] at*
 by_cases hf:f1=f2
 ·subst hf;rw [if_pos rfl] at hQ;have nf:(f1.toList != f1.toList)=false:=by simp
  clear e0 hcm
  by_cases ht:ty=ty2
  ·subst ht;rw [if_pos rfl] at hQ;have nt:(ty != ty)=false:=by simp
   subst hQ;go_enter Tryz.func71,Tryz.ntmps71;go_wp2;go_ret;exact⟨rfl,hB⟩
  ·rw [if_neg ht] at hQ;subst hQ;have nt:(ty != ty2)=true:=by rw [bne_iff_ne];exact ht
   go_enter Tryz.func71,Tryz.ntmps71;go_wp2;go_ret;exact⟨rfl,hB⟩
 ·rw [if_neg hf] at hQ;subst hQ;rw [decide_eq_false hf] at e0;have nf:(f1.toList != f2.toList)=true:=by rw [bne,e0];rfl
  have e9:¬f1.toList=f2.toList:=by simpa using e0
  generalize Nm.cmpS f1 f2=CC at*;go_enter Tryz.func71,Tryz.ntmps71;go_wp2_with fail
  refine(hcm _).mono ?_;rintro e w1 ⟨rfl,b1⟩;go_wp2;go_ret;exact⟨rfl,Nm.below_two hB b1⟩
theorem Tryz.infoRri:(Tryz.prog.info? 79).map (fun i=>(i.zero,i.size,i.bytes))=some (some (.agg #[.string ByteArray.empty,.int .i64 0,.int .i64 0,.int .i64 0,.string ByteArray.empty]),5,56):=by kernel_rfl
set_option maxRecDepth 100000 in
set_option maxHeartbeats 1600000 in
theorem isSmall_any(o:ByteArray)(v:Value)(ps:List Zp)(w:World)(h:ZRow w v ps)(hd:∀ p∈ps,p.1.da.length<=1048576):
 Calls Tryz.prog 72 #[.agg #[.string o,v]] w fun e w'=>e=.returned (.bool (decide (ps.length<=500∧dsum ps<=500)))∧Below w.heap.size w w':=by
 have hB0:=(Below.refl w.heap.size w).alloc (Nat.le_refl _) (.cells #[.string o,v] 25);have hrowW:=h;obtain⟨⟨_,a,cap,rfl,hcap,hmx,_⟩,_⟩:=h;unfold maxLen at hmx;obtain⟨RB,hRB⟩:∃ b,b=decide (ps.length<=500∧dsum ps<=500):=⟨_,rfl⟩;rw [<- hRB]
 by_cases hbig:500<ps.length
 ·have hbig':(500:Int)<(ps.length:Int):=by omega
  obtain rfl:RB=false:=by rw [hRB];simp;omega
  clear hrowW hRB;go_enter Tryz.func72,Tryz.ntmps72;go_wp2;go_ret;exact⟨rfl,hB0⟩
 ·have hbig':(ps.length:Int)<=500:=by omega
  have HRB:=Nm.hide hRB;clear hRB;go_enter Tryz.func72,Tryz.ntmps72;go_wp2
  go_loopw [3,13] (fun t i wr=>∃ k:Nat,k<=ps.length∧i=.int .i64 k∧t=.int .i64 (dsum (ps.take k):Int)∧dsum (ps.take k)<=500∧Below w.heap.size w wr) (fun _ i _=>ps.length-(intOf i).toNat)
  case atStart=>exact⟨0,Nat.zero_le _,rfl,by simp [dsum],by simp [dsum],hB0⟩
  case round=>
   obtain⟨k,hk,rfl,rfl,hle,hbel⟩:=hrel
   by_cases hlt:k<ps.length
   ·obtain⟨x,hxk⟩:∃ x,ps[k]? =some x:=⟨_,List.getElem?_eq_getElem hlt⟩;obtain⟨⟨_,a',cap',hv,_,_,hc⟩,hsr⟩:=hrowW.below hbel;simp only [Value.slice.injEq] at hv;obtain⟨rfl,_,rfl⟩:=hv;obtain⟨b,off,rfl,hcell⟩:=hc (by omega);obtain⟨c0,c1,c2,c3⟩:=zp_cells hcell hxk;have hmem:=List.mem_of_getElem? hxk;obtain⟨da',dc,hdv,_⟩:=hsr x hmem;have HS:=dsum_step ps k x hxk;have hs1:=dsum_take_le ps (k+1);have hdl:=hd x hmem;have i1:(0:Int)<=(k:Int):=by omega
    have i2:(k:Int)<(ps.length:Int):=by omega
    have hB1:=hbel.alloc hbel.size (.cells #[.string x.1.own,.int .i64 x.1.ty,.int .i64 x.1.tt,x.2] 44);have hfin:((dsum (ps.take (k+1)):Nat):Int)=(dsum (ps.take k):Int)+(x.1.da.length:Int):=by omega
    have hbd:(dsum (ps.take k):Int)+(x.1.da.length:Int)<=2000000:=by omega
    have hno:500<dsum (ps.take (k+1))->RB=false:=by
     intro hx;rw [HRB.out];simp;omega
    clear hcell hc hsr hrowW hmem hxk;obtain⟨⟨o1,ty,tt,da⟩,dv⟩:=x;simp only at c0 c1 c2 c3 hdv hfin hbd hB1
    subst hdv;generalize hz:dsum (ps.take (k+1))=z1 at*;generalize dsum (ps.take k)=z0 at*
    by_cases hgt:500<z1
    ·obtain rfl:RB=false:=hno hgt;have hgt':(500:Int)<(z0:Int)+(da.length:Int):=by omega
     clear HRB hno;go_wp2;go_ret;exact⟨rfl,hB1⟩
    ·have hgt':(z0:Int)+(da.length:Int)<=500:=by omega
     clear hno;go_wp2;go_roundw
     case rel=>exact⟨k+1,by omega,by go_num,by rw [hz,hfin],by omega,hB1⟩
     case measure=>simp [intOf];omega
   ·have hkl:k=ps.length:=by omega
    subst hkl;rw [List.take_length] at hle;obtain rfl:RB=true:=by rw [HRB.out];simp;omega
    have i2:(ps.length:Int)<=(ps.length:Int):=by omega
    clear hrowW HRB;go_wp2;go_ret;exact⟨rfl,hbel⟩
set_option maxRecDepth 100000 in
set_option maxHeartbeats 3200000 in
theorem records_any(s:Sz)(dv:Value)(w:World)(h:Nm.SRow w dv s.da)(hl:s.da.length<=1048576)(ho:s.own.size<=1048576)(hx:∀ x∈s.da,x.size<=1048576):
 Calls Tryz.prog 73 #[.agg #[.string s.own,.int .i64 s.ty,.int .i64 s.tt,dv]] w fun e w'=>∃ u,e=.returned u∧w'.ownsRow w.heap.size 79 5 u (recsOf s).length (rvVs (recsOf s))∧(s.da=[]->u=.slice none 0 0)∧Below w.heap.size w w':=by
 obtain⟨i0,hi,hz0,hz1,hz2⟩:=info_parts Tryz.infoRri;have hrl:=recsOf_len s;have hget:=fun(k:Nat) (d:ByteArray) (h:s.da[k]? =some d)=>recsOf_get (s:=s) h
 generalize recsOf s=rs at*;obtain⟨o,ty,tt,da⟩:=s;simp only at*
 have hclo:=fun W=>clone_any o W (by omega)
 have hcld:=fun(x:ByteArray) (hm:x∈da) W=>clone_any x W (by have:=hx x hm;omega)
 have hB0:=(Below.refl w.heap.size w).alloc (Nat.le_refl _) (.cells #[.string o,.int .i64 ty,.int .i64 tt,dv] 44);have hrow:=h.below hB0;have hbx:=blk_new w #[.string o,.int .i64 ty,.int .i64 tt,dv] 44;obtain⟨a,cap,rfl,hcap,hmx,hnl,hc⟩:=hrow;clear h hx;unfold maxLen at hmx;go_enter Tryz.func73,Tryz.ntmps73;go_wp2;generalize w.alloc (.cells #[.string o,.int .i64 ty,.int .i64 tt,.slice a da.length cap] 44)=w0 at*
 have hall:∀ W,Below w0.heap.size w0 W->∀ (k:Nat) (x:ByteArray),da[k]? =some x->∃ b off,a=some ⟨b,off,none⟩∧W.cell? ⟨b,off+k,none⟩=some (.string x):=by
  intro W hW k x hx;obtain⟨b,off,rfl,hcell⟩:=hc (by intro h;rw [h] at hx;simp at hx);have h0:=hcell k x hx;exact⟨b,off,rfl,(hW.cell (World.block_lt_of_cell? w0 _ h0)).trans h0⟩
 have hbox:∀ W,Below w0.heap.size w0 W->W.cell? ⟨w.heap.size,0,none⟩=some (.string o)∧W.cell? ⟨w.heap.size,1,none⟩=some (.int .i64 ty)∧W.cell? ⟨w.heap.size,2,none⟩=some (.int .i64 tt)∧W.cell? ⟨w.heap.size,3,none⟩=some (.slice a da.length cap):=by
  intro W hW;have hb:=blk_below hbx hW;exact⟨(blk_cell hb 0).trans rfl,(blk_cell hb 1).trans rfl,(blk_cell hb 2).trans rfl,(blk_cell hb 3).trans rfl⟩
 clear hc hbx
 go_loopw [3,9] (fun vo vi wr=>∃ k:Nat,k<=da.length∧vi=.int .i64 k∧wr.ownsRow w0.heap.size 79 5 vo k (rvVs (rs.take k))∧(k=0->vo=.slice none 0 0)∧Below w0.heap.size w0 wr) (fun _ vi _=>da.length-(intOf vi).toNat)
 case atStart=>exact⟨0,Nat.zero_le _,rfl,⟨rfl,.inl ⟨rfl,rfl⟩⟩,fun _=>rfl,Below.refl _ _⟩
 case round=>
  obtain⟨k,hk,rfl,oO,hnil,hbel⟩:=hrel
  by_cases hlt:k<da.length
  ·obtain⟨x,hx⟩:∃ x,da[k]? =some x:=⟨_,List.getElem?_eq_getElem hlt⟩;obtain⟨b,off,rfl,hcc⟩:=hall wr hbel k x hx;have hcl2:=fun W=>hcld x (List.mem_of_getElem? hx) W
   have HT:Hid (rvVs (rs.take k)++[.string o,.int .i64 ty,.int .i64 1,.int .i64 tt,.string x]=rvVs (rs.take (k+1))):=by
    show _=_
    rw [hget k x hx,rvVs_app];rfl
   have i1:(0:Int)<=(k:Int):=by omega
   have i2:(k:Int)<(da.length:Int):=by omega
   clear hall hget hx hcld hnil;go_wp2_with fail
   refine wp_region_held_drew (S:=fun W=>Below w0.heap.size w0 W) (by kernel_rfl) hbel.drew (fun hHeld=>?_);refine wpAnyH_take (i:=0) (v:=?_) rfl (by kernel_rfl) (by kernel_rfl) (by kernel_rfl) (fun _ _ _ h=>h) (Or.inl ⟨by rfl,?_⟩) (by assumption) ?_;rotate_left 1
   ·(intro W hSW;obtain⟨z0,z1,z2,z3⟩:=hbox W hSW;go_simp;try (with_reducible rfl))
   refine wpAnyH_take (i:=1) (v:=?_) rfl (by kernel_rfl) (by kernel_rfl) (by kernel_rfl) (fun _ _ _ h=>h) (Or.inl ⟨by rfl,?_⟩) (by assumption) ?_;rotate_left 1
   ·(intro W hSW;obtain⟨z0,z1,z2,z3⟩:=hbox W hSW;go_simp;try (with_reducible rfl))
   refine wpAnyH_take (i:=2) (v:=?_) rfl (by kernel_rfl) (by kernel_rfl) (by kernel_rfl) (fun _ _ _ h=>h) (Or.inl ⟨by rfl,?_⟩) (by assumption) ?_;rotate_left 1
   ·(intro W hSW;obtain⟨z0,z1,z2,z3⟩:=hbox W hSW;go_simp;try (with_reducible rfl))
   refine wpAnyH_take (i:=4) (v:=?_) rfl (by kernel_rfl) (by kernel_rfl) (by kernel_rfl) (fun _ _ _ h=>h) (Or.inl ⟨by rfl,?_⟩) (by assumption) ?_;rotate_left 1
   ·(intro W hSW;obtain⟨z0,z1,z2,z3⟩:=hbox W hSW;go_simp;try (with_reducible rfl))
   refine wpAnyH_take (i:=5) (v:=?_) rfl (by kernel_rfl) (by kernel_rfl) (by kernel_rfl) (fun _ _ _ h=>h) (Or.inl ⟨by rfl,?_⟩) (by assumption) ?_;rotate_left 1
   ·(intro W hSW;obtain⟨z0,z1,z2,z3⟩:=hbox W hSW;go_simp;try (with_reducible rfl))
   refine wpAnyH_take (i:=6) (v:=?_) rfl (by kernel_rfl) (by kernel_rfl) (by kernel_rfl) (fun _ _ _ h=>h) (Or.inl ⟨by rfl,?_⟩) (by assumption) ?_;rotate_left 1
   ·(intro W hSW;obtain⟨z0,z1,z2,z3⟩:=hbox W hSW;go_simp;try (with_reducible rfl))
   refine wpAnyH_take (i:=7) (v:=?_) rfl (by kernel_rfl) (by kernel_rfl) (by kernel_rfl) (fun _ _ _ h=>h) (Or.inl ⟨by rfl,?_⟩) (by assumption) ?_;rotate_left 1
   ·(intro W hSW;obtain⟨z0,z1,z2,z3⟩:=hbox W hSW;go_simp;try (with_reducible rfl))
   refine wpAnyH_take (i:=8) (v:=?_) rfl (by kernel_rfl) (by kernel_rfl) (by kernel_rfl) (fun _ _ _ h=>h) (Or.inl ⟨by rfl,?_⟩) (by assumption) ?_;rotate_left 1
   ·(intro W hSW;obtain⟨z0,z1,z2,z3⟩:=hbox W hSW;go_simp;try (with_reducible rfl))
   refine wpAnyH_ready (rs:=[3]) (by kernel_rfl) (by simp) ?_;refine AllReadyH.cons rfl (fun K hK=>?_) AllReadyH.nil;go_simp;refine(hclo _).mono ?_;rintro e w3 ⟨rfl,hb3⟩;have hS3:Below w0.heap.size w0 w3:=Below.trans hHeld (hb3.mono hHeld.size);have oO3:=own_below (own_below oO (Below.refl _ _).drew) hb3;go_wp2_with fail
   refine hK.out _ _ hS3 (fun _=>?_);clear hK K;refine wpAnyH_ready (rs:=[9]) (by kernel_rfl) (by simp) ?_;refine AllReadyH.cons rfl (fun K hK=>?_) AllReadyH.nil;go_simp;refine(hcl2 _).mono ?_;rintro e w4 ⟨rfl,hb4⟩;have hS4:Below w0.heap.size w0 w4:=Below.trans hS3 (hb4.mono hS3.size);have oO4:=own_below oO3 hb4;go_wp2_with fail
   refine hK.out _ _ hS4 (fun _=>?_);clear hK K oO3 hS3;refine wpAnyH_take (i:=10) (v:=?_) rfl (by kernel_rfl) (by kernel_rfl) (by kernel_rfl) (fun _ _ _ h=>h) (Or.inl ⟨by rfl,?_⟩) (by assumption) ?_;rotate_left 1
   ·(intro W hSW;obtain⟨z0,z1,z2,z3⟩:=hbox W hSW;go_simp;try (with_reducible rfl))
   refine wpAnyH_ready (rs:=[11]) (by kernel_rfl) (by simp) ?_;refine AllReadyH.cons rfl (fun K hK=>?_) AllReadyH.nil;go_simp;refine hK.out _ _ (hS4.alloc hS4.size _) (fun _=>?_);clear hK K;refine wpAnyH_ready (rs:=[12]) (by kernel_rfl) (by simp) ?_;refine AllReadyH.cons rfl (fun K hK=>?_) AllReadyH.nil;refine step_append_own rfl (.tmp 13) (.tmp 24) 49 rfl w0.heap.size 79 i0 _ 5 56 Tryz.underlying49 hi hz0 hz1 hz2 rfl (by decide) _ _ _ (by rfl) (own_below oO4 ((Below.refl _ _).alloc (Nat.le_refl _) _)) ⟨w4.heap.size,0,none⟩ 1 1 [.string o,.int .i64 ty,.int .i64 1,.int .i64 tt,.string x] (by rfl) rfl (cell_newV _ _ _) (by intro u hu;simp at hu;rcases hu with rfl|rfl|rfl|rfl|rfl<;>rfl) (by unfold maxLen;omega) (by omega) (by have:=hS4.size;simp;omega) ?_;intro va wa hown' hgrow _;rw [HT.out] at hown';have b4:Below w0.heap.size w0 wa:=(hS4.alloc hS4.size _).grown hgrow (by have:=hS4.size;simp;omega) (fun k hk=>(oO4.lt k hk).1);refine hK.out _ _ b4 (fun _=>?_);clear hK K hgrow oO oO4 hHeld hS4;refine wpAnyH_take (i:=13) (v:=?_) rfl (by kernel_rfl) (by kernel_rfl) (by kernel_rfl) (fun _ _ _ h=>h) (Or.inl ⟨by rfl,?_⟩) (by assumption) ?_;rotate_left 1
   ·(intro W hSW;obtain⟨z0,z1,z2,z3⟩:=hbox W hSW;go_simp;try (with_reducible rfl))
   refine wpAnyH_done (by kernel_rfl) ?_ _;obtain⟨z0,z1,z2,z3⟩:=hbox _ b4;go_wp2;go_roundw
   case rel=>exact⟨k+1,by omega,by go_num,hown',fun h=>by omega,b4⟩
   case measure=>simp [intOf];omega
  ·have hkl:k=da.length:=by omega
   subst hkl;have i2:(da.length:Int)<=(da.length:Int):=by omega
   clear hall hbox hget hcld;rw [List.take_of_length_le (by omega)] at oO;go_wp2;go_ret;refine⟨_,rfl,?_,fun h=>hnil (by rw [h];rfl),Nm.below_two hB0 hbel⟩;rw [hrl];exact own_base oO hB0.size
set_option maxRecDepth 100000 in
set_option maxHeartbeats 3200000 in
theorem specZoneRecords_any(o:ByteArray)(v:Value)(ps:List Zp)(w:World)(h:ZRow w v ps)(hs:zsum ps<=1048576)(hl:ps.length<=1048576):
 Calls Tryz.prog 17 #[.agg #[.string o,v]] w fun e w'=>∃ u,e=.returned u∧w'.ownsRow w.heap.size 79 5 u (zoneRecs ps).length (rvVs (zoneRecs ps))∧Below w.heap.size w w':=by
 obtain⟨RS,hRS⟩:∃ R,R=zoneRecs ps:=⟨_,rfl⟩;rw [<- hRS];unfold zoneRecs at hRS;have hB0:=(Below.refl w.heap.size w).alloc (Nat.le_refl _) (.cells #[.string o,v] 25);have hbx:=blk_new w #[.string o,v] 25;have hrow:=h.below hB0;have hrowW:=h;have hsz0:(w.alloc (.cells #[.string o,v] 25)).heap.size=w.heap.size+1:=by simp
 have o0:=World.ownsRow_lit (base:=(w.alloc (.cells #[.string o,v] 25)).heap.size) (e:=79) (size:=5) (w.alloc (.cells #[.string o,v] 25)) #[] 0 (Nat.le_refl _) (by decide) rfl;obtain⟨⟨_,a,cap,rfl,hcap,hmx,_⟩,_⟩:=h;unfold maxLen at hmx
 by_cases hbig:500<ps.length
 ·have hbig':(500:Int)<(ps.length:Int):=by omega
  obtain rfl:RS=[]:=by rw [hRS,if_pos (.inl hbig)]
  clear hRS hrow;go_enter Tryz.func17,Tryz.ntmps17;go_wp2;go_ret;refine⟨_,rfl,?_,hB0.alloc hB0.size _⟩;rw [hsz0] at o0;exact own_base o0 (by omega)
 ·have hbig':(ps.length:Int)<=500:=by omega
  have hcnt:=fun W (hW:Below (w.alloc (.cells #[.string o,.slice a ps.length cap] 25)).heap.size (w.alloc (.cells #[.string o,.slice a ps.length cap] 25)) W)=>l06Count_any o (.slice a ps.length cap) ps W (hrow.below hW) hs hl
  by_cases hd:500<dsum ps
  ·have hd':(500:Int)<(dsum ps:Int):=by omega
   obtain rfl:RS=[]:=by rw [hRS,if_pos (.inr hd)]
   clear hRS hrow;generalize dsum ps=D at*;go_enter Tryz.func17,Tryz.ntmps17;go_wp2_with (go_at_call 15;refine(hcnt _ ((Below.refl _ _).alloc (Nat.le_refl _) _)).mono ?_;rintro e w1 ⟨rfl,hb1⟩)
   go_ret;refine⟨_,rfl,?_,Nm.below_two (hB0.alloc hB0.size _) hb1⟩;have o1:=own_below o0 hb1;rw [hsz0] at o1;exact own_base o1 (by omega)
  ·have hd':(dsum ps:Int)<=500:=by omega
   have hRS2:RS=recsAll ps:=by rw [hRS,if_neg (by omega)]
   clear hRS;have hdd:∀ k,dsum (ps.take k)<=500:=fun k=>by have:=dsum_take_le ps k;omega
   have hrl:=fun k=>recsAll_len (ps.take k)
   have hstep:=fun(k:Nat) (x:Zp) (h:ps[k]? =some x)=>recsAll_step h
   have hdst:=fun(k:Nat) (x:Zp) (h:ps[k]? =some x)=>dsum_step ps k x h
   have hrun:=hcnt;generalize hDP:dsum ps=D at hrun hd';go_enter Tryz.func17,Tryz.ntmps17;go_wp2_with (go_at_call 15;refine(hrun _ ((Below.refl _ _).alloc (Nat.le_refl _) _)).mono ?_;rintro e w1 ⟨rfl,hb1⟩)
   have hbx1:=blk_below (blk_alloc hbx (.cells #[] 79)) hb1;have hB1:=Nm.below_two (hB0.alloc hB0.size (.cells #[] 79)) hb1;have o1:=own_below o0 hb1;have hb01:Below (w.alloc (.cells #[.string o,.slice a ps.length cap] 25)).heap.size (w.alloc (.cells #[.string o,.slice a ps.length cap] 25)) w1:=Nm.below_two ((Below.refl _ _).alloc (Nat.le_refl _) _) hb1;have hrow1:=hrow.below hb01;rw [hsz0] at o1;clear hcnt hrun hb1 hb01 o0 hrow hbx hB0 hsz0;obtain⟨wb,hwb⟩:∃ wb,wb=w1:=⟨w1,rfl⟩;have hw1b:w.heap.size+1<=w1.heap.size:=blk_lt hbx1
   go_loopw [3,4] (fun vo vi wr=>∃ k:Nat,k<=ps.length∧vi=.int .i64 k∧wr.ownsRow (w.heap.size+1) 79 5 vo (recsAll (ps.take k)).length (rvVs (recsAll (ps.take k)))∧Below (w.heap.size+1) w1 wr) (fun _ vi _=>ps.length-(intOf vi).toNat)
   case atStart=>exact⟨0,Nat.zero_le _,rfl,o1,Below.refl _ _⟩
   case round=>
    obtain⟨k,hk,rfl,oO,hbel⟩:=hrel;clear o1;have hW:Below w.heap.size w wr:=hB1.trans (hbel.mono (by omega));have hbr:Blk wr w.heap.size #[.string o,.slice a ps.length cap] 25:=(hbel.block _ (by omega)).trans hbx1;have q1:wr.cell? ⟨w.heap.size,1,none⟩=some (.slice a ps.length cap):=(blk_cell hbr 1).trans rfl;have hwsz:w.heap.size+1<=wr.heap.size:=blk_lt hbr
    by_cases hlt:k<ps.length
    ·obtain⟨x,hxk⟩:∃ x,ps[k]? =some x:=⟨_,List.getElem?_eq_getElem hlt⟩;obtain⟨⟨_,a',cap',hv,_,_,hc⟩,hsr⟩:=hrowW.below hW;simp only [Value.slice.injEq] at hv;obtain⟨rfl,_,rfl⟩:=hv;obtain⟨b,off,rfl,hcell⟩:=hc (by omega);obtain⟨c0,c1,c2,c3⟩:=zp_cells hcell hxk;have hmem:=List.mem_of_getElem? hxk;have hxl:x.1.da.length<=1048576:=by have:=zsum_mem ps x hmem;unfold zs1 at this;omega
     have hone:=l06SetRecords_any x.1 x.2 wr (hsr x hmem) hxl;have hsp:=hstep k x hxk;have hld:=hdst k x hxk;have hd1:=hdd (k+1);have hl0:=hrl k;have hl1:=recsOf_len x.1;have hjn:=fun U W (h1:W.ownsRow (w.heap.size+1) 79 5 _ (recsAll (ps.take k)).length (rvVs (recsAll (ps.take k)))) (h2:W.ownsRow wr.heap.size 79 5 U (recsOf x.1).length (rvVs (recsOf x.1))) hB=>l06Join_any _ U (recsAll (ps.take k)) (recsOf x.1) (w.heap.size+1) wr.heap.size W h1 h2 hB (fun g hg=>(oO.lt g hg).2) (by omega)
     rw [<- hsp] at hjn;have i1:(0:Int)<=(k:Int):=by omega
     have i2:(k:Int)<(ps.length:Int):=by omega
     clear hcell hc hsr hrowW hstep hdst hrl hdd hsp hld hl0 hl1 hmem hxk;generalize recsAll (ps.take k)=R0 at*;generalize hR1:recsAll (ps.take (k+1))=R1 at*;generalize recsOf x.1=R2 at*;obtain⟨⟨o1,ty,tt,da⟩,dv⟩:=x;simp only at c0 c1 c2 c3 hone
     obtain⟨oa,oc,hov⟩:=own_sl oO;subst hov;go_wp2_with (first|(go_at_call 43;refine hone.mono ?_;rintro e w2 ⟨u,rfl,hu,hb2⟩;have oO2:=own_below oO hb2)|(go_at_call 42;refine(hjn _ _ oO2 hu (by have:=hb2.size;omega)).mono ?_;rintro e w3 ⟨u3,rfl,hu3,hb3⟩))
     go_roundw
     case rel=>exact⟨k+1,by omega,by go_num,by rw [hR1];exact hu3,(hbel.trans (hb2.mono (by omega))).trans hb3⟩
     case measure=>simp [intOf];omega
    ·have hkl:k=ps.length:=by omega
     subst hkl;have i2:(ps.length:Int)<=(ps.length:Int):=by omega
     rw [List.take_length,<- hRS2] at oO;clear hrowW hstep hdst hrl hdd hRS2;go_wp2;go_ret;exact⟨_,rfl,own_base oO (by omega),hW⟩
end Go.Proofs.YtahpiciofdfipaaGreat
