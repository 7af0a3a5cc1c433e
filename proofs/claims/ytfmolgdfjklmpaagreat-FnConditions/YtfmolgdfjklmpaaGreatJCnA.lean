import Derived.Test.YtfmolgdfjklmpaaGreatJFnT
import Derived.Test.YtfmolgdfjklmpaaGreatJCzE
import Derived.Test.YtfmolgdfjklmpaaGreatJFnS
import Derived.Test.YtfmolgdfjklmpaaGreatJSCheck
import Derived.Test.YtfmolgdfjklmpaaGreatJZrM
import Derived.Test.YtfmolgdfjklmpaaGreatJBzW
import Derived.Test.YtfmolgdfjklmpaaGreatJMath
namespace Go.Proofs.YtfmolgdfjklmpaaGreat
open Go.RowKit
set_option linter.unusedVariables false
def prC(r:Rr):Int×Bool:=if r.cl=255 then(if r.ty=255 then(3,true) else(8,true)) else if r.ty=255 then(6,false) else(7,false)
set_option maxRecDepth 100000 in
theorem presence_any(r:Rr)(w:World):Calls Tryz.prog 89 #[.agg #[.string r.own,.int .i64 r.ty,.int .i64 r.cl,.int .i64 r.tt,.string r.da]] w fun e w'=>e=.returned (.tuple #[.int .i64 (prC r).1,.bool (prC r).2])∧Below w.heap.size w w':=by
 have b0:=(Below.refl w.heap.size w).alloc (Nat.le_refl _) (.cells #[.string r.own,.int .i64 r.ty,.int .i64 r.cl,.int .i64 r.tt,.string r.da] 33);obtain⟨P,HP⟩:∃ P,Hid (P=prC r):=⟨_,rfl⟩;rw [<- HP.out];obtain⟨o,ty,cl,tt,da⟩:=r;simp only at b0
 by_cases h1:cl=255
 ·by_cases h2:ty=255
  ·have HN:Hid (P=(3,true)):=by show _=_;rw [HP.out];simp [prC,h1,h2]
   subst h1 h2;clear HP;go_enter Tryz.func89,Tryz.ntmps89;go_wp2;go_ret2;rw [HN.out];exact⟨rfl,b0⟩
  ·have HN:Hid (P=(8,true)):=by show _=_;rw [HP.out];simp [prC,h1,h2]
   have e2:(ty==255)=false:=by simpa using h2
   subst h1;clear HP h2;go_enter Tryz.func89,Tryz.ntmps89;go_wp2;go_ret2;rw [HN.out];exact⟨rfl,b0⟩
 ·have e1:(cl==255)=false:=by simpa using h1
  by_cases h2:ty=255
  ·have HN:Hid (P=(6,false)):=by show _=_;rw [HP.out];simp [prC,h1,h2]
   subst h2;clear HP h1;go_enter Tryz.func89,Tryz.ntmps89;go_wp2;go_ret2;rw [HN.out];exact⟨rfl,b0⟩
  ·have HN:Hid (P=(7,false)):=by show _=_;rw [HP.out];simp [prC,h1,h2]
   have e2:(ty==255)=false:=by simpa using h2
   clear HP h1 h2;go_enter Tryz.func89,Tryz.ntmps89;go_wp2;go_ret2;rw [HN.out];exact⟨rfl,b0⟩
def hnT(lab:List ByteArray)(ty:Int)(os:List GOw):Bool:=if ty=255 then isIn (oCmp lab) os else hasT lab ty os
section
variable {list:List Rr}{o:ByteArray}{bb:Nat}{lv:Value}{th:Nat}{ys:List ByteArray}{aa:Option Addr}{ac:Nat}{labv rv:Value}{os:List GOw}{kv:Value}{ks:List Ld}{B:Nat}
theorem P3.trs{W:World}(h:P3 list o bb lv th ys aa ac labv rv os kv ks B W):TrS os∧os.length<=500:=by
 have hol:=h.st.inv.len.1;have:=h.hl;rw [List.length_map] at hol;exact⟨h.st.inv.trs (by rw [List.length_map];omega),by omega⟩
set_option maxRecDepth 100000 in
set_option maxHeartbeats 800000 in
theorem hasAny_any(na:Option Addr)(nl nc:Nat)(lab:List ByteArray)(ty:Int)(w:World)(hP:P3 list o bb lv th ys aa ac labv rv os kv ks B w)(hn:Nm.SRow w (.slice na nl nc) lab)(hnl:lab.length<=1000000000):
 Calls Tryz.prog 90 #[.pointer (some ⟨bb,3,none⟩),.slice na nl nc,.int .i64 ty] w fun e w'=>e=.returned (.bool (hnT lab ty os))∧Below w.heap.size w w':=by
 obtain⟨ht,hl⟩:=hP.trs;have hc:w.cell? ⟨bb,4,none⟩=some (ptr th):=(blk_cell hP.kb 4).trans rfl;have hg:=getOwner_any th rv os B (.slice na nl nc) lab w hP.st.tr (by omega) ht.1 hP.st.lab hn hnl;have hh:=treeHas_any bb 3 th rv os B na nl nc lab ty w hP.st.tr (by omega) ht hP.st.lab hn hnl hc;unfold ptr at hc hg;rw [hnT]
 by_cases h1:ty=255
 ·subst h1;rw [if_pos rfl];obtain⟨R,HR⟩:∃ R,Hid (R=isIn (oCmp lab) os):=⟨_,rfl⟩;rw [<- HR.out];clear hh hP hn;go_enter Tryz.func90,Tryz.ntmps90;go_wp2_with fail
  refine hg.mono ?_;rintro e w1 ⟨hb,⟨hin,c,hc1,_,rfl⟩|⟨hin,rfl⟩⟩
  ·try unfold ptr
   have HN:Hid (R=true):=by show _=_;rw [HR.out,hin]
   clear HR hin hc1;go_wp2;go_ret;rw [HN.out];exact⟨rfl,hb⟩
  ·have HN:Hid (R=false):=by show _=_;rw [HR.out,hin]
   clear HR hin;go_wp2;go_ret;rw [HN.out];exact⟨rfl,hb⟩
 ·have e1:(ty==255)=false:=by simpa using h1
  rw [if_neg h1];generalize hasT lab ty os=HT at*;clear hg hP hn h1;go_enter Tryz.func90,Tryz.ntmps90;go_wp2_with fail
  refine hh.mono ?_;rintro e w1 ⟨rfl,hb⟩;go_wp2;go_ret;exact⟨rfl,hb⟩
theorem hnT_zone{W:World}(hP:P3 list o bb lv th ys aa ac labv rv os kv ks B W)(hz:TZ os o ys){name:ByteArray}{lab:List ByteArray}(hn:Nm.split name=some lab)(ty:Int):hnT lab ty os=if ty=255 then hasN (zoneT os) name else hasS (zoneT os) name ty:=by
 rw [hnT];split
 ·have:=(hz.ty hn).2;rw [hasN]
  cases e:isIn (oCmp lab) os with
  |true=>rw [e] at this;simp [this.1 rfl]
  |false=>
   rw [e] at this;have h2:¬0<(typZ (zoneT os) name).length:=fun h=>by have:=this.2 h;cases this
   simp only [decide_eq_false h2]
 ·exact hasS_tree hP.st.inv hP.good.1 hn ty
end
theorem seD_not{l:List It}{os:List GOw}{name:ByteArray}{lab:List ByteArray}(hT:TInv l os)(hl:∀ y∈l,GoodI y)(hn:Nm.split name=some lab){t:Int}(h:hasT lab t os=false):seD (zoneT os) name t=[]:=
 seD_no hT hl hn fun c hc h1 s hs h2=>by
  have:=(hasT_iff ⟨hT.sorted.1,fun o ho=>(hT.sorted.2 o ho).1⟩ lab t).2 ⟨c,hc,h1,s,hs,h2⟩;rw [h] at this;cases this
section
variable {list:List Rr}{o:ByteArray}{bb:Nat}{lv:Value}{th:Nat}{ys:List ByteArray}{aa:Option Addr}{ac:Nat}{labv rv:Value}{os:List GOw}{kv:Value}{ks:List Ld}{B:Nat}
set_option maxRecDepth 100000 in
set_option maxHeartbeats 3200000 in
theorem foldedData_any(fo:ByteArray)(lab:List ByteArray)(ty:Int)(w:World)(hP:P3 list o bb lv th ys aa ac labv rv os kv ks B w)(hn:Nm.split fo=some lab)(hs:fo.size<=1048576):
 Calls Tryz.prog 95 #[.pointer (some ⟨bb,3,none⟩),.agg #[.string fo,.int .i64 ty]] w fun e w'=>∃ v,e=.returned v∧w'.ownsRow w.heap.size 9 1 v (seD (zoneT os) fo ty).length ((seD (zoneT os) fo ty).map Value.string)∧Below w.heap.size w w':=by
 obtain⟨ht,hl⟩:=hP.trs;have b0:=(Below.refl w.heap.size w).alloc (Nat.le_refl _) (.cells #[.string fo,.int .i64 ty] 144);have k0:=blk_new w #[.string fo,.int .i64 ty] 144;have hsp:=fun W=>splitName_any fo W (by unfold maxLen;omega)
 rw [hn] at hsp;simp only [Option.getD_some,Option.isSome_some] at hsp;have hll:=Nm.length_le_wsum lab;have hgl:=Nm.split_size hn;have hgo:=fun(v:Value) W (hW:Below w.heap.size w W) (hv:Nm.SRow W v lab)=>getOwner_any th rv os B v lab W (hP.below hW).st.tr (by omega) ht.1 (hP.below hW).st.lab hv (by omega)
 have hgs:=fun c (hc:c∈os) W (hW:Below w.heap.size w W)=>getSet_any c B ty W ((hP.below hW).st.tr.owners c hc) (by have:=(ht.2 c hc).2.1;omega) (ht.2 c hc).1
 have HKB:Hid (∀ W,Below w.heap.size w W->W.cell? ⟨bb,4,none⟩=some (.pointer (some ⟨th,0,none⟩))):=fun W hW=>(blk_cell (blk_below hP.kb hW) 4).trans rfl
 have HP:=Nm.hide hP;clear hP;obtain⟨R,HR⟩:∃ R,Hid (R=seD (zoneT os) fo ty):=⟨_,rfl⟩;rw [<- HR.out];go_enter Tryz.func95,Tryz.ntmps95;go_wp2_with fail
 refine(hsp _).mono ?_;rintro e w1 ⟨v1,rfl,o1,b1⟩;obtain⟨va,vc,rfl⟩:=own_sl o1;have hv1:=Nm.SRow.of_owns o1;have bw1:=Nm.below_two b0 b1;have k1:=blk_below k0 b1;have kb1:=HKB.out w1 bw1;have hg1:=hgo _ w1 bw1 hv1;unfold ptr at hg1;clear hsp b0 b1 k0 o1 hgo;go_wp2_with fail
 refine hg1.mono ?_;rintro e w2 ⟨b2,⟨hin,c,hc,hcl,rfl⟩|⟨hin,rfl⟩⟩
 ·have hcm:=List.mem_of_getElem? hc;have bw2:=Nm.below_two bw1 b2;have k2:=blk_below k1 b2;have hoc:OwAt w2 B c:=(HP.out.below bw2).st.tr.owners c hcm;have kn:=hoc.node;have hg2:=fun W hW=>hgs c hcm W hW
  have HH:Hid (hasT lab ty os=isIn (sCmp ty) c.ss):=by show _=_;rw [hasT,hc,hin];rfl
  unfold ptr at kn hg2;have HOC:=Nm.hide (And.intro hcm hcl);clear hgs hg1 kb1 hv1 k1 bw1 hoc hc hin;go_upto_region 5 with fail
  have bd:=(Below.refl w2.heap.size w2).drew;have bwd:=Nm.below_two bw2 bd;refine wp_region_last (fun X=>Blk X c.blk #[.string c.nm,c.lv,.pointer (some ⟨c.hd,0,none⟩)] 127∧Blk X w.heap.size #[.string fo,.int .i64 ty] 144) 1000 (by kernel_rfl) ⟨blk_below kn bd,blk_below k2 bd⟩ (fun hHeld=>?_);refine wpAnyL_take (i:=0) (v:=?_) rfl (by kernel_rfl) (by kernel_rfl) (by kernel_rfl) (by kernel_rfl) (fun _ _ _ h=>h) (Or.inl ⟨by kernel_rfl,?_⟩) (by assumption) ?_;rotate_left 1
  ·(rintro W ⟨s1,s2⟩;have ss1:=(fun i=>blk_cell s1 i);have ss2:=(fun i=>blk_cell s2 i);go_simp;try (with_reducible rfl))
  refine wpAnyL_take (i:=1) (v:=?_) rfl (by kernel_rfl) (by kernel_rfl) (by kernel_rfl) (by kernel_rfl) (fun _ _ _ h=>h) (Or.inl ⟨by kernel_rfl,?_⟩) (by assumption) ?_;rotate_left 1
  ·(rintro W ⟨s1,s2⟩;have ss1:=(fun i=>blk_cell s1 i);have ss2:=(fun i=>blk_cell s2 i);go_simp;try (with_reducible rfl))
  refine wpAnyL_take (i:=2) (v:=?_) rfl (by kernel_rfl) (by kernel_rfl) (by kernel_rfl) (by kernel_rfl) (fun _ _ _ h=>h) (Or.inl ⟨by kernel_rfl,?_⟩) (by assumption) ?_;rotate_left 1
  ·(rintro W ⟨s1,s2⟩;have ss1:=(fun i=>blk_cell s1 i);have ss2:=(fun i=>blk_cell s2 i);go_simp;try (with_reducible rfl))
  refine wpAnyL_take (i:=3) (v:=?_) rfl (by kernel_rfl) (by kernel_rfl) (by kernel_rfl) (by kernel_rfl) (fun _ _ _ h=>h) (Or.inl ⟨by kernel_rfl,?_⟩) (by assumption) ?_;rotate_left 1
  ·(rintro W ⟨s1,s2⟩;have ss1:=(fun i=>blk_cell s1 i);have ss2:=(fun i=>blk_cell s2 i);go_simp;try (with_reducible rfl))
  refine wpAnyL_take (i:=4) (v:=?_) rfl (by kernel_rfl) (by kernel_rfl) (by kernel_rfl) (by kernel_rfl) (fun _ _ _ h=>h) (Or.inl ⟨by kernel_rfl,?_⟩) (by assumption) ?_;rotate_left 1
  ·(rintro W ⟨s1,s2⟩;have ss1:=(fun i=>blk_cell s1 i);have ss2:=(fun i=>blk_cell s2 i);go_simp;try (with_reducible rfl))
  refine wpAnyL_take (i:=5) (v:=?_) rfl (by kernel_rfl) (by kernel_rfl) (by kernel_rfl) (by kernel_rfl) (fun _ _ _ h=>h) (Or.inl ⟨by kernel_rfl,?_⟩) (by assumption) ?_;rotate_left 1
  ·(rintro W ⟨s1,s2⟩;have ss1:=(fun i=>blk_cell s1 i);have ss2:=(fun i=>blk_cell s2 i);go_simp;try (with_reducible rfl))
  refine wpAnyL_one (i:=6) (by kernel_rfl) rfl (fun K hK=>?_);go_simp;refine(hg2 _ bwd).mono ?_;rintro e w3 ⟨b3,⟨hin,s,hsq,hty,rfl⟩|⟨hin,rfl⟩⟩
  ·have hsm:=List.mem_of_getElem? hsq;have b3':=Nm.below_two bd b3;have bw3:=Nm.below_two bw2 b3';have kn3:=blk_below kn b3';have k3:=blk_below k2 b3'
   try unfold ptr
   go_wp2_with fail
   refine hK.out _ _ ⟨kn3,k3⟩ (fun hHeld=>?_);clear hK K;refine wpAnyL_take (i:=7) (v:=?_) rfl (by kernel_rfl) (by kernel_rfl) (by kernel_rfl) (by kernel_rfl) (fun _ _ _ h=>h) (Or.inl ⟨by kernel_rfl,?_⟩) (by assumption) ?_;rotate_left 1
   ·(rintro W ⟨s1,s2⟩;have ss1:=(fun i=>blk_cell s1 i);have ss2:=(fun i=>blk_cell s2 i);go_simp;try (with_reducible rfl))
   refine wpAnyL_take (i:=8) (v:=?_) rfl (by kernel_rfl) (by kernel_rfl) (by kernel_rfl) (by kernel_rfl) (fun _ _ _ h=>h) (Or.inl ⟨by kernel_rfl,?_⟩) (by assumption) ?_;rotate_left 1
   ·(rintro W ⟨s1,s2⟩;have ss1:=(fun i=>blk_cell s1 i);have ss2:=(fun i=>blk_cell s2 i);go_simp;try (with_reducible rfl))
   refine wpAnyL_take (i:=9) (v:=?_) rfl (by kernel_rfl) (by kernel_rfl) (by kernel_rfl) (by kernel_rfl) (fun _ _ _ h=>h) (Or.inl ⟨by kernel_rfl,?_⟩) (by assumption) ?_;rotate_left 1
   ·(rintro W ⟨s1,s2⟩;have ss1:=(fun i=>blk_cell s1 i);have ss2:=(fun i=>blk_cell s2 i);go_simp;try (with_reducible rfl))
   refine wpAnyL_take (i:=10) (v:=?_) rfl (by kernel_rfl) (by kernel_rfl) (by kernel_rfl) (by kernel_rfl) (fun _ _ _ h=>h) (Or.inl ⟨by kernel_rfl,?_⟩) (by assumption) ?_;rotate_left 1
   ·(rintro W ⟨s1,s2⟩;have ss1:=(fun i=>blk_cell s1 i);have ss2:=(fun i=>blk_cell s2 i);go_simp;try (with_reducible rfl))
   refine wpAnyL_take (i:=11) (v:=?_) rfl (by kernel_rfl) (by kernel_rfl) (by kernel_rfl) (by kernel_rfl) (fun _ _ _ h=>h) (Or.inl ⟨by kernel_rfl,?_⟩) (by assumption) ?_;rotate_left 1
   ·(rintro W ⟨s1,s2⟩;have ss1:=(fun i=>blk_cell s1 i);have ss2:=(fun i=>blk_cell s2 i);go_simp;try (with_reducible rfl))
   refine wpAnyL_done (by kernel_rfl) ?_;go_simp;have hsa:SeAt w3 B s:=((HP.out.below bw3).st.tr.owners c HOC.out.1).sets s hsm;have hse:=hsa.node;have hsl:s.da.length<=1000000:=by have:=((ht.2 c HOC.out.1).2.2 s hsm).2;omega
   have hR:Hid (R=s.da.map (·.1)):=by show _=_;rw [HR.out];exact seD_yes HP.out.st.inv HP.out.good.1 hn HOC.out.1 hsm HOC.out.2 hty
   have hko:=keysOfS_any s.hd s.rv s.da hsl w3 (blk_lt hsa.head) ((blk_cell hsa.head 1).trans rfl) (rwsS_own (fun p:ByteArray×ByteArray=>p.1) (fun p=>p.2) s.da (by have:=hsa.rows;rw [show(daRs s.da).length=s.da.length by simp [daRs]] at this;exact this));unfold ptr at hse;have rse:=fun i=>blk_cell hse i
   clear hsa hse hHeld kn kn3 k2 k3 HR HH HOC HP hg2 HKB bd bwd b3;go_wp2_with fail
   refine hko.mono ?_;rintro e w4 ⟨v4,rfl,o4,b4⟩;have bw4:=Nm.below_two bw3 b4;have o5:=own_base o4 bw3.size;have o6:w4.ownsRow w.heap.size 9 1 v4 R.length (R.map Value.string):=by rw [hR.out,List.length_map,List.map_map];exact o5
   obtain⟨xa,xc,rfl⟩:=own_sl o6;clear o4 o5 rse;go_wp2;go_ret;exact⟨_,rfl,o6,bw4⟩
  ·have b3':=Nm.below_two bd b3;have bw3:=Nm.below_two bw2 b3';have hR:Hid (R=[]):=by show _=_;rw [HR.out];exact seD_not HP.out.st.inv HP.out.good.1 hn (HH.out.trans hin)
   go_wp2_with fail
   refine hK.out _ _ ⟨blk_below kn b3',blk_below k2 b3'⟩ (fun hHeld=>?_);clear hK K;refine wpAnyL_take (i:=7) (v:=?_) rfl (by kernel_rfl) (by kernel_rfl) (by kernel_rfl) (by kernel_rfl) (fun _ _ _ h=>h) (Or.inl ⟨by kernel_rfl,?_⟩) (by assumption) ?_;rotate_left 1
   ·(rintro W ⟨s1,s2⟩;have ss1:=(fun i=>blk_cell s1 i);have ss2:=(fun i=>blk_cell s2 i);go_simp;try (with_reducible rfl))
   refine wpAnyL_take (i:=8) (v:=?_) rfl (by kernel_rfl) (by kernel_rfl) (by kernel_rfl) (by kernel_rfl) (fun _ _ _ h=>h) (Or.inl ⟨by kernel_rfl,?_⟩) (by assumption) ?_;rotate_left 1
   ·(rintro W ⟨s1,s2⟩;have ss1:=(fun i=>blk_cell s1 i);have ss2:=(fun i=>blk_cell s2 i);go_simp;try (with_reducible rfl))
   refine wpAnyL_take (i:=9) (v:=?_) rfl (by kernel_rfl) (by kernel_rfl) (by kernel_rfl) (by kernel_rfl) (fun _ _ _ h=>h) (Or.inl ⟨by kernel_rfl,?_⟩) (by assumption) ?_;rotate_left 1
   ·(rintro W ⟨s1,s2⟩;have ss1:=(fun i=>blk_cell s1 i);have ss2:=(fun i=>blk_cell s2 i);go_simp;try (with_reducible rfl))
   refine wpAnyL_take (i:=10) (v:=?_) rfl (by kernel_rfl) (by kernel_rfl) (by kernel_rfl) (by kernel_rfl) (fun _ _ _ h=>h) (Or.inl ⟨by kernel_rfl,?_⟩) (by assumption) ?_;rotate_left 1
   ·(rintro W ⟨s1,s2⟩;have ss1:=(fun i=>blk_cell s1 i);have ss2:=(fun i=>blk_cell s2 i);go_simp;try (with_reducible rfl))
   refine wpAnyL_take (i:=11) (v:=?_) rfl (by kernel_rfl) (by kernel_rfl) (by kernel_rfl) (by kernel_rfl) (fun _ _ _ h=>h) (Or.inl ⟨by kernel_rfl,?_⟩) (by assumption) ?_;rotate_left 1
   ·(rintro W ⟨s1,s2⟩;have ss1:=(fun i=>blk_cell s1 i);have ss2:=(fun i=>blk_cell s2 i);go_simp;try (with_reducible rfl))
   refine wpAnyL_done (by kernel_rfl) ?_;go_simp;clear HR HH HP hg2 HKB;go_wp2;go_ret;rw [hR.out];exact⟨_,rfl,World.ownsRow_nil _ _ _ _,bw3⟩
 ·have bw2:=Nm.below_two bw1 b2
  have hR:Hid (R=[]):=by
   show _=_
   rw [HR.out];refine seD_not HP.out.st.inv HP.out.good.1 hn ?_;rw [hasT,hin];cases os[posOf (oCmp lab) os]? <;>rfl
  clear HR HP HKB hgs;go_wp2;go_ret;rw [hR.out];exact⟨_,rfl,World.ownsRow_nil _ _ _ _,bw2⟩
end
end Go.Proofs.YtfmolgdfjklmpaaGreat
