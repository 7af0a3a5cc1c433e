import Derived.Test.YtfmolgdfjklmpaaGreatJCnA
namespace Go.Proofs.YtfmolgdfjklmpaaGreat
open Go.RowKit
set_option linter.unusedVariables false
section
variable {list:List Rr}{o:ByteArray}{bb:Nat}{lv:Value}{th:Nat}{ys:List ByteArray}{aa:Option Addr}{ac:Nat}{labv rv:Value}{os:List GOw}{kv:Value}{ks:List Ld}{B:Nat}
set_option maxRecDepth 100000 in
set_option maxHeartbeats 3200000 in
theorem checkCondition_any(r:Rr)(lab:List ByteArray)(w:World)(hP:P3 list o bb lv th ys aa ac labv rv os kv ks B w)(hz:TZ os o ys)(hn:Nm.split r.own=some lab)(ho:r.own.size<=1048576)(hd:r.da.size<=1048576):
 Calls Tryz.prog 46 #[.pointer (some ⟨bb,3,none⟩),.agg #[.string r.own,.int .i64 r.ty,.int .i64 r.cl,.int .i64 r.tt,.string r.da]] w fun e w'=>e=.returned (.int .i64 (cnC (zoneT os) o r))∧Below w.heap.size w w':=by
 obtain⟨R,HR⟩:∃ R,Hid (R=cnC (zoneT os) o r):=⟨_,rfl⟩;rw [<- HR.out];have b0:=(Below.refl w.heap.size w).alloc (Nat.le_refl _) (.cells #[.string r.own,.int .i64 r.ty,.int .i64 r.cl,.int .i64 r.tt,.string r.da] 33);have k0:=blk_new w #[.string r.own,.int .i64 r.ty,.int .i64 r.cl,.int .i64 r.tt,.string r.da] 33;have hsp:=fun W=>splitName_any r.own W (by unfold maxLen;omega)
 rw [hn] at hsp;simp only [Option.getD_some,Option.isSome_some] at hsp;have hgl:=Nm.split_size hn;have hll:=Nm.length_le_wsum lab;have hyl:=Nm.length_le_wsum ys;have hys:=Nm.split_size hP.ap;have hxs:∀ x∈lab,x.size<=1000000000:=fun x hx=>by have:=((Nm.split_join hn).2 x hx).2;omega
 have hun:=fun(v:Value) W (hW:Below w.heap.size w W) (hv:Nm.SRow W v lab)=>under_any v (.slice aa ys.length ac) lab ys W hv (hP.below hW).av hxs (by omega) (by omega)
 have hu:=isUnder_some hn hP.ap;have HOW:=Nm.hide (fun W=>isOwnData_any r.ty r.da W hd);have HPR:=Nm.hide (fun W=>presence_any r W);have HHA:=Nm.hide (fun na nl nc W (hW:Below w.heap.size w W) (hv:Nm.SRow W (.slice na nl nc) lab)=>hasAny_any na nl nc lab r.ty W (hP.below hW) hv (by omega));have hht:=hnT_zone hP hz hn r.ty;have HKB:Hid (∀ W,Below w.heap.size w W->W.cell? ⟨bb,3,none⟩=some (.slice aa ys.length ac)):=fun W hW=>(blk_cell (blk_below hP.kb hW) 3).trans rfl
 clear hP hz hgl hll hyl hys hxs hn;generalize zoneT os=ss at*;obtain⟨ow,ty,cl,tt,da⟩:=r;simp only at*
 go_enter Tryz.func46,Tryz.ntmps46;go_wp2_with fail
 refine(hsp _).mono ?_;rintro e w1 ⟨v1,rfl,o1,b1⟩;obtain⟨va,vc,rfl⟩:=own_sl o1;have hv1:=Nm.SRow.of_owns o1;have bw1:=Nm.below_two b0 b1;have k1:=blk_below k0 b1;have r1:=fun i=>blk_cell k1 i
 have kb1:=HKB.out w1 bw1;clear hsp b0 b1 k0 o1
 by_cases h1:tt=0
 ·have e1:(tt != 0)=false:=by simpa using h1
  have hun1:=hun _ w1 bw1 hv1;rw [<- hu] at hun1;clear hun
  cases hu2:isUnderS ow o with
  |false=>
   have HN:Hid (R=10):=by show _=_;rw [HR.out,cnC,if_neg (by simpa using h1),if_pos hu2]
   rw [hu2] at hun1;clear HR h1 hu HHA HOW HPR hht;go_wp2_with fail
   refine hun1.mono ?_;rintro e w2 ⟨rfl,m,rfl⟩;have bw2:=Go.below_drewN bw1 m;go_wp2;go_ret;rw [HN.out]
   exact⟨rfl,bw2⟩
  |true=>
   rw [hu2] at hun1;go_wp2_with fail
   refine hun1.mono ?_;rintro e w2 ⟨rfl,m,hw2⟩;have b2:Below w1.heap.size w1 w2:=by rw [hw2];exact Go.below_drewN (Below.refl _ _) m
   clear hw2;have bw2:=Nm.below_two bw1 b2;have k2:=blk_below k1 b2;have r2:=fun i=>blk_cell k2 i
   have hv2:=hv1.below b2;clear r1 k1 bw1 b2 hun1 kb1 hv1
   by_cases h2:cl=1
   ·have e2:(cl==1)=true:=by simp [h2]
    have n1:(cl != 255)=true:=by simp [h2]
    have n2:(cl != 254)=true:=by simp [h2]
    cases hw:ownB ty da with
    |true=>
     have HN:Hid (R=0):=by show _=_;rw [HR.out,cnC,if_neg (by simpa using h1),if_neg (by rw [hu2];decide),if_pos h2,if_pos hw]
     have how:=HOW.out;rw [hw] at how;clear HR h1 h2 hu HHA HPR HOW hht hw;go_wp2_with fail
     refine(how _).mono ?_;rintro e w3 ⟨rfl,b3⟩;have bw3:=Nm.below_two bw2 b3;go_wp2;go_ret;rw [HN.out]
     exact⟨rfl,bw3⟩
    |false=>
     have HN:Hid (R=1):=by show _=_;rw [HR.out,cnC,if_neg (by simpa using h1),if_neg (by rw [hu2];decide),if_pos h2,if_neg (by rw [hw];decide)]
     have how:=HOW.out;rw [hw] at how;clear HR h1 h2 hu HHA HPR HOW hht hw;go_wp2_with fail
     refine(how _).mono ?_;rintro e w3 ⟨rfl,b3⟩;have bw3:=Nm.below_two bw2 b3;have k3:=blk_below k2 b3;have r3:=fun i=>blk_cell k3 i
     clear r2 k2;go_wp2;go_ret;rw [HN.out];exact⟨rfl,bw3⟩
   ·have e2:(cl==1)=false:=by simpa using h2
    by_cases h3:(cl≠255∧cl≠254)∨da.size≠0
    ·have HN:Hid (R=1):=by show _=_;rw [HR.out,cnC,if_neg (by simpa using h1),if_neg (by rw [hu2];decide),if_neg h2,if_pos h3]
     clear HR h1 h2 hu HHA HPR hht HOW
     by_cases h4:cl=255
     ·have n1:(cl != 255)=false:=by simp [h4]
      have n3:(da.toList==[])=false:=by
       have hs:da.size≠0:=by rcases h3 with h|h;exact absurd h4 h.1;exact h
       rw [ByteArray.toList_eq];rw [beq_eq_false_iff_ne];intro e;apply hs;show da.data.size=0
       rw [<- Array.length_toList,e];rfl
      clear h3 h4;go_wp2;go_ret;rw [HN.out];exact⟨rfl,bw2⟩
     ·have n1:(cl != 255)=true:=by simpa using h4
      by_cases h5:cl=254
      ·have n2:(cl != 254)=false:=by simp [h5]
       have n3:(da.toList==[])=false:=by
        have hs:da.size≠0:=by rcases h3 with h|h;exact absurd h5 h.2;exact h
        rw [ByteArray.toList_eq];rw [beq_eq_false_iff_ne];intro e;apply hs;show da.data.size=0
        rw [<- Array.length_toList,e];rfl
       clear h3 h4 h5;go_wp2;go_ret;rw [HN.out];exact⟨rfl,bw2⟩
      ·have n2:(cl != 254)=true:=by simpa using h5
       clear h3 h4 h5;go_wp2;go_ret;rw [HN.out];exact⟨rfl,bw2⟩
    ·have n3:(da.toList==[])=true:=by
      rw [str_empty]
      rcases Nat.eq_zero_or_pos da.size with h|h
      ·exact decide_eq_true h
      ·exact absurd (.inr (by omega)) h3
     have hcl:cl=255∨cl=254:=by
      rcases Classical.em (cl=255) with h|h
      ·exact .inl h
      ·rcases Classical.em (cl=254) with h'|h'
       ·exact .inr h'
       ·exact absurd (.inl ⟨h,h'⟩) h3
     have HD:Hid (R=if hnT lab ty os=(prC ⟨ow,ty,cl,tt,da⟩).2 then 0 else(prC ⟨ow,ty,cl,tt,da⟩).1):=by
      show _=_
      rw [HR.out,cnC,if_neg (by simpa using h1),if_neg (by rw [hu2];decide),if_neg h2,if_neg h3,hht,prC];simp only
      rcases hcl with rfl|rfl<;>(by_cases h5:ty=255<;>(simp only [h5];(first|(cases hasN ss ow<;>rfl)|(cases hasS ss ow ty<;>simp))))
     clear HR hu hht HOW h2 h3;generalize prC ⟨ow,ty,cl,tt,da⟩=PC at*;obtain⟨pc,pw⟩:=PC;have HH2:=Nm.hide (fun W hW hv=>HHA.out va lab.length vc W hW hv);clear HHA;generalize hnT lab ty os=HT at*;simp only at*
     subst h1
     rcases hcl with rfl|rfl
     ·go_wp2_with fail
      refine(HPR.out _).mono ?_;rintro e w3 ⟨rfl,b3⟩;have bw3:=Nm.below_two bw2 b3;have k3:=blk_below k2 b3;have r3:=fun i=>blk_cell k3 i
      have hv3:=hv2.below b3;clear r2 k2 HPR;go_wp2_with fail
      refine(HH2.out _ bw3 hv3).mono ?_;rintro e w4 ⟨rfl,b4⟩;have bw4:=Nm.below_two bw3 b4;clear HH2 r3;cases HT<;>cases pw
      ·have HN:Hid (R=0):=HD;go_wp2;go_ret;rw [HN.out];exact⟨rfl,bw4⟩
      ·have HN:Hid (R=pc):=HD;go_wp2;go_ret;rw [HN.out];exact⟨rfl,bw4⟩
      ·have HN:Hid (R=pc):=HD;go_wp2;go_ret;rw [HN.out];exact⟨rfl,bw4⟩
      ·have HN:Hid (R=0):=HD;go_wp2;go_ret;rw [HN.out];exact⟨rfl,bw4⟩
     ·go_wp2_with fail
      refine(HPR.out _).mono ?_;rintro e w3 ⟨rfl,b3⟩;have bw3:=Nm.below_two bw2 b3;have k3:=blk_below k2 b3;have r3:=fun i=>blk_cell k3 i
      have hv3:=hv2.below b3;clear r2 k2 HPR;go_wp2_with fail
      refine(HH2.out _ bw3 hv3).mono ?_;rintro e w4 ⟨rfl,b4⟩;have bw4:=Nm.below_two bw3 b4;clear HH2 r3;cases HT<;>cases pw
      ·have HN:Hid (R=0):=HD;go_wp2;go_ret;rw [HN.out];exact⟨rfl,bw4⟩
      ·have HN:Hid (R=pc):=HD;go_wp2;go_ret;rw [HN.out];exact⟨rfl,bw4⟩
      ·have HN:Hid (R=pc):=HD;go_wp2;go_ret;rw [HN.out];exact⟨rfl,bw4⟩
      ·have HN:Hid (R=0):=HD;go_wp2;go_ret;rw [HN.out];exact⟨rfl,bw4⟩
 ·have e1:(tt != 0)=true:=by simpa using h1
  have HN:Hid (R=1):=by show _=_;rw [HR.out,cnC,if_pos (by simpa using h1)]
  clear HR h1 hu HHA HOW HPR hht hun;go_wp2;go_ret;rw [HN.out];exact⟨rfl,bw1⟩
end
end Go.Proofs.YtfmolgdfjklmpaaGreat
