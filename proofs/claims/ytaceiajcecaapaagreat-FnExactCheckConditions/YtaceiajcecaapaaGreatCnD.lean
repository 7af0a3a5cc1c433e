import Derived.Test.YtaceiajcecaapaaGreatJFnV
import Derived.Test.YtaceiajcecaapaaGreatJFsC
import Derived.Test.YtaceiajcecaapaaGreatJBzW
namespace Go.Proofs.YtaceiajcecaapaaGreat
open Go.RowKit
set_option linter.unusedVariables false
set_option maxRecDepth 100000 in
set_option maxHeartbeats 1600000 in
theorem l10HasName_any(o name:ByteArray)(v:Value)(ps:List Zp)(w:World)(h:ZRow w v ps)(hl:ps.length<=1048576)(hf:∀ p∈ps,p.1.own.size<=1048576)(hn:name.size<=maxLen):
 Calls Tryz.prog 56 #[.agg #[.string o,v],.string name] w fun e w'=>e=.returned (.bool (hasN (ps.map (·.1)) name))∧Below w.heap.size w w':=by
 obtain⟨va,vc,rfl⟩:∃ va vc,v=.slice va ps.length vc:=by obtain⟨⟨_,a,c,e,_⟩,_⟩:=h;exact⟨a,c,e⟩
 have b0:=(Below.refl w.heap.size w).alloc (Nat.le_refl _) (.cells #[.string o,.slice va ps.length vc] 32);have k0:=blk_new w #[.string o,.slice va ps.length vc] 32;have r0:=fun i=>blk_cell k0 i
 have hty:=l06Types_any o name (.slice va ps.length vc) ps _ (h.below b0) hl hf hn;rw [hasN];generalize typZ (ps.map (·.1)) name=T at*;obtain⟨R,HR⟩:∃ R,Hid (R=decide (0<T.length)):=⟨_,rfl⟩;rw [<- HR.out];clear h hf hl;go_enter Tryz.func56,Tryz.ntmps56;go_wp2_with fail
 refine hty.mono ?_;rintro e w1 ⟨u,rfl,ou,b1⟩;obtain⟨ua,uc,rfl⟩:=own_sl ou;have bw1:=Nm.below_two b0 b1;clear hty k0 r0 ou b0 b1;go_wp2;go_ret;rw [HR.out];exact⟨rfl,bw1⟩
set_option maxRecDepth 100000 in
set_option maxHeartbeats 6400000 in
theorem l10Condition_any(o:ByteArray)(r:Rr)(v:Value)(ps:List Zp)(w:World)(h:ZRow w v ps)(hl:ps.length<=1048576)(hf:∀ p∈ps,p.1.own.size<=1048576∧p.1.da.length<=1048576)(ho:o.size<=1000000000)(hr:r.own.size<=1048576):
 Calls Tryz.prog 30 #[.agg #[.string o,v],.agg #[.string r.own,.int .i64 r.ty,.int .i64 r.cl,.int .i64 r.tt,.string r.da]] w fun e w'=>e=.returned (.int .i64 (cnC (ps.map (·.1)) o r))∧Below w.heap.size w w':=by
 obtain⟨va,vc,rfl⟩:∃ va vc,v=.slice va ps.length vc:=by obtain⟨⟨_,a,c,e,_⟩,_⟩:=h;exact⟨a,c,e⟩
 obtain⟨R,HR⟩:∃ R,Hid (R=cnC (ps.map (·.1)) o r):=⟨_,rfl⟩;rw [<- HR.out];obtain⟨ow,ty,cl,tt,da⟩:=r;simp only at hr ⊢
 have b0:=(Below.refl w.heap.size w).alloc (Nat.le_refl _) (.cells #[.string o,.slice va ps.length vc] 32);have b1:=b0.alloc b0.size (.cells #[.string ow,.int .i64 ty,.int .i64 cl,.int .i64 tt,.string da] 47);have k0:=blk_alloc (blk_new w #[.string o,.slice va ps.length vc] 32) (.cells #[.string ow,.int .i64 ty,.int .i64 cl,.int .i64 tt,.string da] 47);have q0:=blk_new (w.alloc (.cells #[.string o,.slice va ps.length vc] 32)) #[.string ow,.int .i64 ty,.int .i64 cl,.int .i64 tt,.string da] 47;rw [World.size_alloc] at q0;have r0:=fun i=>blk_cell k0 i
 have s0:=fun i=>blk_cell q0 i
 have hfi:=l06Find_any o ow ty (.slice va ps.length vc) ps _ (h.below b1) hl hf (by unfold maxLen;omega);have HNM:=Nm.hide (fun W (hW:Below w.heap.size w W)=>l10HasName_any o ow (.slice va ps.length vc) ps W (h.below hW) hl (fun p hp=>(hf p hp).1) (by unfold maxLen;omega));have HUN:=Nm.hide (fun W=>specIsUnder_any ow o W (by unfold maxLen;omega) (by unfold maxLen;omega));have HCK:=Nm.hide (fun W=>specCheckData_any ty da W);have HME:=Nm.hide (fun W=>l05Meta_any ty W)
 have HCN:Hid (∀ S N:Bool,hasS (ps.map (·.1)) ow ty=S->hasN (ps.map (·.1)) ow=N->R=(if tt≠0 then 1 else if isUnderS ow o=false then 10 else if cl=1 then(if ownB ty da=true then 0 else 1) else if(cl≠255∧cl≠254)∨da.size≠0 then 1 else if cl=255 then(if ty=255 then(if N=true then 0 else 3) else if S=true then 0 else 8) else(if ty=255 then(if N=true then 6 else 0) else if S=true then 7 else 0))):=by
  rintro S N rfl rfl;exact HR.out
 have e5:=str_empty (s:=da);clear h hf hl HR;go_enter Tryz.func30,Tryz.ntmps30;go_wp2_with fail
 refine hfi.mono ?_;rintro e w1 ⟨fv,rfl,of,b2⟩;obtain⟨fa,fc,rfl⟩:=own_sl of;clear of;have bw1:=Nm.below_two b1 b2;have k1:=blk_below k0 b2;have q1:=blk_below q0 b2;obtain⟨S,hS⟩:∃ S,hasS (ps.map (·.1)) ow ty=S:=⟨_,rfl⟩;have hS':(fndZ (ps.map (·.1)) ow ty).isSome=S:=hS;rw [hS'];generalize (fndZ (ps.map (·.1)) ow ty).getD sz0=Z at*;generalize Z.da.length=ZL at*;have b3:=bw1.alloc bw1.size (.cells #[.string Z.own,.int .i64 Z.ty,.int .i64 Z.tt,.slice fa ZL fc] 65);have k2:=blk_alloc k1 (.cells #[.string Z.own,.int .i64 Z.ty,.int .i64 Z.tt,.slice fa ZL fc] 65);have q2:=blk_alloc q1 (.cells #[.string Z.own,.int .i64 Z.ty,.int .i64 Z.tt,.slice fa ZL fc] 65);have r2:=fun i=>blk_cell k2 i
 have s2:=fun i=>blk_cell q2 i
 have hnm:=HNM.out _ b3;obtain⟨N,hN⟩:∃ N,hasN (ps.map (·.1)) ow=N:=⟨_,rfl⟩;rw [hN] at hnm;have HR:=Nm.hide (HCN.out S N hS hN);clear HCN HNM hS hS' hN hfi k0 q0 r0 s0 k1 q1 b0 b1 b2 bw1;go_wp2_with fail
 refine hnm.mono ?_;rintro e w2 ⟨rfl,b4⟩;have bw:=Nm.below_two b3 b4;have k3:=blk_below k2 b4;have q3:=blk_below q2 b4;have r3:=fun i=>blk_cell k3 i
 have s3:=fun i=>blk_cell q3 i
 clear hnm r2 s2 k2 q2 b3 b4
 by_cases h1:tt=0
 ·have e1:(tt != 0)=false:=by simpa using h1
  have hun:=HUN.out w2
  cases hu:isUnderS ow o with
  |false=>
   have HN:Hid (R=10):=by show _=_;rw [HR.out,if_neg (by simpa using h1),if_pos hu]
   rw [hu] at hun;clear HR h1;go_wp2_with fail
   refine hun.mono ?_;rintro e w3 ⟨rfl,b5⟩;have bw3:=Nm.below_two bw b5;go_wp2;go_ret;rw [HN.out]
   exact⟨rfl,bw3⟩
  |true=>
   have HR2:=HR.out;rw [if_neg (by simpa using h1),if_neg (by rw [hu];decide)] at HR2;rw [hu] at hun;have HR:=Nm.hide HR2;clear HR2 h1 hu;go_wp2_with fail
   refine hun.mono ?_;rintro e w3 ⟨rfl,b5⟩;have bw3:=Nm.below_two bw b5;have k4:=blk_below k3 b5;have q4:=blk_below q3 b5;have r4:=fun i=>blk_cell k4 i
   have s4:=fun i=>blk_cell q4 i
   clear r3 s3 k3 q3 b5 bw hun HUN
   by_cases h2:cl=1
   ·have f1:(cl==1)=true:=by simp [h2]
    have HR2:=HR.out;rw [if_pos h2,ownB] at HR2;have hme:=HME.out w3;have hck:=HCK.out w3;generalize metaB ty=M at*;generalize cutCode ty da=C at*;clear h2 HR
    cases M with
    |true=>
     have HN:Hid (R=1):=HR2;clear HR2 hck;go_wp2_with fail
     refine hme.mono ?_;rintro e w4 ⟨rfl,rfl⟩;go_wp2;go_ret;rw [HN.out]
     exact⟨rfl,bw3⟩
    |false=>
     by_cases hC:C=0
     ·subst hC;have HN:Hid (R=0):=HR2;clear HR2;go_wp2_with fail
      refine hme.mono ?_;rintro e w4 ⟨rfl,rfl⟩;go_wp2_with fail
      refine hck.mono ?_;rintro e w5 ⟨rfl,b6⟩;have bw5:=Nm.below_two bw3 b6;go_wp2;go_ret;rw [HN.out];exact⟨rfl,bw5⟩
     ·have HN:Hid (R=1):=by
       show _=_
       rw [HR2,if_neg];simpa using hC
      have f2:(C != 0)=true:=by simpa using hC
      clear HR2 hC;go_wp2_with fail
      refine hme.mono ?_;rintro e w4 ⟨rfl,rfl⟩;go_wp2_with fail
      refine hck.mono ?_;rintro e w5 ⟨rfl,b6⟩;have bw5:=Nm.below_two bw3 b6;go_wp2;go_ret;rw [HN.out];exact⟨rfl,bw5⟩
   ·have f1:(cl==1)=false:=by simpa using h2
    have HR2:=HR.out;rw [if_neg h2] at HR2;clear HR HME HCK h2
    by_cases h4:cl=255
    ·have n1:(cl != 255)=false:=by simp [h4]
     have n2:(cl==255)=true:=by simp [h4]
     have n3:(cl==254)=false:=by simp [h4]
     by_cases h6:da.size=0
     ·have n5:(da.toList==[])=true:=by rw [e5];exact decide_eq_true h6
      rw [if_neg (by simp [h4,h6]),if_pos h4] at HR2;clear e5 h4 h6
      by_cases h7:ty=255
      ·have n6:(ty==255)=true:=by simp [h7]
       have n7:(ty != 255)=false:=by simp [h7]
       rw [if_pos h7] at HR2;clear h7
       cases N with
       |true=>
        have HN:Hid (R=0):=HR2;clear HR2;go_wp2;go_ret;rw [HN.out]
        exact⟨rfl,bw3⟩
       |false=>
        have HN:Hid (R=3):=HR2;clear HR2;go_wp2;go_ret;rw [HN.out];exact⟨rfl,bw3⟩
      ·have n6:(ty==255)=false:=by simpa using h7
       have n7:(ty != 255)=true:=by simpa using h7
       rw [if_neg h7] at HR2;clear h7
       cases S with
       |true=>
        have HN:Hid (R=0):=HR2;clear HR2;go_wp2;go_ret;rw [HN.out]
        exact⟨rfl,bw3⟩
       |false=>
        have HN:Hid (R=8):=HR2;clear HR2;go_wp2;go_ret;rw [HN.out];exact⟨rfl,bw3⟩
     ·have n5:(da.toList==[])=false:=by rw [e5];exact decide_eq_false h6
      have HN:Hid (R=1):=by show _=_;rw [HR2,if_pos (.inr h6)]
      clear HR2 e5 h4 h6;go_wp2;go_ret;rw [HN.out];exact⟨rfl,bw3⟩
    ·have n1:(cl != 255)=true:=by simpa using h4
     have n2:(cl==255)=false:=by simpa using h4
     by_cases h5:cl=254
     ·have n3:(cl != 254)=false:=by simp [h5]
      have n4:(cl==254)=true:=by simp [h5]
      by_cases h6:da.size=0
      ·have n5:(da.toList==[])=true:=by rw [e5];exact decide_eq_true h6
       rw [if_neg (by simp [h5,h6]),if_neg h4] at HR2;clear e5 h4 h5 h6
       by_cases h7:ty=255
       ·have n6:(ty==255)=true:=by simp [h7]
        have n7:(ty != 255)=false:=by simp [h7]
        rw [if_pos h7] at HR2;clear h7
        cases N with
        |true=>
         have HN:Hid (R=6):=HR2;clear HR2;go_wp2;go_ret;rw [HN.out]
         exact⟨rfl,bw3⟩
        |false=>
         have HN:Hid (R=0):=HR2;clear HR2;go_wp2;go_ret;rw [HN.out];exact⟨rfl,bw3⟩
       ·have n6:(ty==255)=false:=by simpa using h7
        have n7:(ty != 255)=true:=by simpa using h7
        rw [if_neg h7] at HR2;clear h7
        cases S with
        |true=>
         have HN:Hid (R=7):=HR2;clear HR2;go_wp2;go_ret;rw [HN.out]
         exact⟨rfl,bw3⟩
        |false=>
         have HN:Hid (R=0):=HR2;clear HR2;go_wp2;go_ret;rw [HN.out];exact⟨rfl,bw3⟩
      ·have n5:(da.toList==[])=false:=by rw [e5];exact decide_eq_false h6
       have HN:Hid (R=1):=by show _=_;rw [HR2,if_pos (.inr h6)]
       clear HR2 e5 h4 h5 h6;go_wp2;go_ret;rw [HN.out];exact⟨rfl,bw3⟩
     ·have n3:(cl != 254)=true:=by simpa using h5
      have HN:Hid (R=1):=by show _=_;rw [HR2,if_pos (.inl ⟨h4,h5⟩)]
      clear HR2 e5 h4 h5;go_wp2;go_ret;rw [HN.out];exact⟨rfl,bw3⟩
 ·have e1:(tt != 0)=true:=by simpa using h1
  have HN:Hid (R=1):=by show _=_;rw [HR.out,if_pos h1]
  clear HR h1;go_wp2;go_ret;rw [HN.out];exact⟨rfl,bw⟩
end Go.Proofs.YtaceiajcecaapaaGreat
