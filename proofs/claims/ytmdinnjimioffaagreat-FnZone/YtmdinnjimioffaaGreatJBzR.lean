import Derived.Test.YtmdinnjimioffaaGreatZbA
import Derived.Test.YtmdinnjimioffaaGreatJZbG
import Derived.Test.YtmdinnjimioffaaGreatJTrG
import Derived.Test.YtmdinnjimioffaaGreatJTrE
namespace Go.Proofs.YtmdinnjimioffaaGreat
open Go.RowKit
set_option linter.unusedVariables false
def recC(r:Rr)(xs ys:List ByteArray):Int:=
 if r.cl≠1 then 19 else if(decide (0<=r.tt)&&decide (r.tt<=2147483647))=false then 18
 else if(decide (0<=r.ty)&&decide (r.ty<=65535))=false then 6 else if metaB r.ty=true then 6 else if cutCode r.ty r.da≠0 then 7 else if underB xs ys=false then 22 else 0
set_option maxRecDepth 100000 in
set_option maxHeartbeats 1600000 in
theorem checkRecord_any(r:Rr)(bb:Nat)(v u:Value)(xs ys:List ByteArray)(w:World)(hd:r.da.size<=2000000)(hv:Nm.SRow w v xs)(hu:Nm.SRow w u ys)(hk:w.cell? ⟨bb,3,none⟩=some u)(hxs:∀ x∈xs,x.size<=1000000000)(hlx:xs.length<=1000000000)(hly:ys.length<=1000000000):
 Calls Tryz.prog 85 #[.pointer (some ⟨bb,0,none⟩),.agg #[.string r.own,.int .i64 r.ty,.int .i64 r.cl,.int .i64 r.tt,.string r.da],v] w fun e w'=>e=.returned (.int .i64 (recC r xs ys))∧Below w.heap.size w w':=by
 have hB0:=(Below.refl w.heap.size w).alloc (Nat.le_refl _) (.cells #[.string r.own,.int .i64 r.ty,.int .i64 r.cl,.int .i64 r.tt,.string r.da] 33);have hR0:=RB.new w r 33;have h1:=fun W=>within_any r.tt 2147483647 W
 have h2:=fun W=>within_any r.ty 65535 W
 have h3:=fun W=>isMeta_any r.ty W
 have h4:=fun W=>implCheckData_any r.ty r.da W hd
 have h5:=fun W (hW:Below w.heap.size w W)=>under_any v u xs ys W (hv.below hW) (hu.below hW) hxs hlx hly
 have hkk:=fun W (hW:Below w.heap.size w W)=>(hW.cell (p:=⟨bb,3,none⟩) (World.block_lt_of_cell? w _ hk)).trans hk
 have ev:=hv;obtain⟨va,vc,rfl,_⟩:=ev;have eu:=hu;obtain⟨ua,uc,rfl,_⟩:=eu;obtain⟨Q,hQ⟩:∃ Q,Q=recC r xs ys:=⟨_,rfl⟩;rw [<- hQ];unfold recC at hQ;generalize cutCode r.ty r.da=CC at*;generalize underB xs ys=UB at*;generalize (decide (0<=r.tt)&&decide (r.tt<=2147483647))=TT at*;generalize (decide (0<=r.ty)&&decide (r.ty<=65535))=TY at*;have hmb:∀ b,metaB r.ty=b->True:=fun _ _=>trivial
 generalize metaB r.ty=MB at*;clear hmb hv hu hk;obtain⟨o,ty,cl,tt,da⟩:=r;simp only [RB] at*;obtain⟨c0,c1,c2,c3,c4⟩:=hR0
 by_cases hcl:cl=1
 ·rw [if_neg (by simpa using hcl)] at hQ;subst hcl;have ncl:((1:Int) != 1)=false:=rfl
  cases TT with
  |false=>
   simp only [if_true] at hQ;subst hQ;clear h2 h3 h4 h5 hkk;go_enter Tryz.func85,Tryz.ntmps85;go_wp2_with fail
   refine(h1 _).mono ?_;rintro e w1 ⟨rfl,rfl⟩;go_wp2;go_ret
   exact⟨rfl,hB0⟩
  |true=>
   simp only [Bool.true_eq_false,if_false] at hQ
   cases TY with
   |false=>
    simp only [if_true] at hQ;subst hQ;clear h3 h4 h5 hkk;go_enter Tryz.func85,Tryz.ntmps85;go_wp2_with fail
    refine(h1 _).mono ?_;rintro e w1 ⟨rfl,rfl⟩;go_wp2_with fail
    refine(h2 _).mono ?_;rintro e w1 ⟨rfl,rfl⟩;go_wp2;go_ret
    exact⟨rfl,hB0⟩
   |true=>
    simp only [Bool.true_eq_false,if_false] at hQ
    cases MB with
    |true=>
     simp only [if_true] at hQ;subst hQ;clear h4 h5 hkk;go_enter Tryz.func85,Tryz.ntmps85;go_wp2_with fail
     refine(h1 _).mono ?_;rintro e w1 ⟨rfl,rfl⟩;go_wp2_with fail
     refine(h2 _).mono ?_;rintro e w1 ⟨rfl,rfl⟩;go_wp2_with fail
     refine(h3 _).mono ?_;rintro e w1 ⟨rfl,rfl⟩;go_wp2;go_ret
     exact⟨rfl,hB0⟩
    |false=>
     simp only [Bool.false_eq_true,if_false] at hQ
     by_cases hcc:CC=0
     ·rw [if_neg (by simpa using hcc)] at hQ;subst hcc;have HQ:=Nm.hide hQ;clear hQ;go_enter Tryz.func85,Tryz.ntmps85;go_wp2_with fail
      refine(h1 _).mono ?_;rintro e w1 ⟨rfl,rfl⟩;go_wp2_with fail
      refine(h2 _).mono ?_;rintro e w1 ⟨rfl,rfl⟩;go_wp2_with fail
      refine(h3 _).mono ?_;rintro e w1 ⟨rfl,rfl⟩;go_wp2_with fail
      refine(h4 _).mono ?_;rintro e w2 ⟨rfl,b2⟩;have hb2:=Nm.below_two hB0 b2;have k2:=hkk w2 hb2;clear hkk;go_wp2_with fail
      refine(h5 _ hb2).mono ?_;rintro e w3 ⟨rfl,m,rfl⟩
      cases UB with
      |true=>
       go_wp2;go_ret
       exact⟨by rw [HQ.out];rfl,Go.below_drewN hb2 _⟩
      |false=>
       go_wp2;go_ret;exact⟨by rw [HQ.out];rfl,Go.below_drewN hb2 _⟩
     ·rw [if_pos (by simpa using hcc)] at hQ;subst hQ;have ncc:(CC != 0)=true:=by simpa using hcc
      clear h5 hkk;go_enter Tryz.func85,Tryz.ntmps85;go_wp2_with fail
      refine(h1 _).mono ?_;rintro e w1 ⟨rfl,rfl⟩;go_wp2_with fail
      refine(h2 _).mono ?_;rintro e w1 ⟨rfl,rfl⟩;go_wp2_with fail
      refine(h3 _).mono ?_;rintro e w1 ⟨rfl,rfl⟩;go_wp2_with fail
      refine(h4 _).mono ?_;rintro e w2 ⟨rfl,b2⟩;go_wp2;go_ret;exact⟨rfl,Nm.below_two hB0 b2⟩
 ·rw [if_pos (by simpa using hcl)] at hQ;subst hQ;have ncl:(cl != 1)=true:=by simpa using hcl
  clear h1 h2 h3 h4 h5 hkk;go_enter Tryz.func85,Tryz.ntmps85;go_wp2;go_ret;exact⟨rfl,hB0⟩
set_option maxRecDepth 100000 in
set_option maxHeartbeats 1600000 in
theorem firstSOA_any(bb:Nat)(cq:Nat)(code:Int)(v:Value)(ls:List Ld)(f:Ld->Bool)(w:World)(hk:w.cell? ⟨bb,5,none⟩=some v)(h:CRow w v ls.length 4 (ldVs ls))(hl:ls.length<=1000000)
 (hf:∀ x∈ls,∀ W,Below w.heap.size w W->Calls Tryz.prog 88 #[.agg #[.int .i64 (x.at_:Int),.int .i64 x.ty,.pointer (some ⟨x.ob,0,none⟩),.pointer (some ⟨x.sb,0,none⟩)],.pointer (some ⟨cq,0,none⟩)] W fun e w'=>e=.returned (.bool (f x))∧Below W.heap.size W w'):
 Calls Tryz.prog 87 #[.pointer (some ⟨bb,0,none⟩),.int .i64 code,.func (.func 88) #[] #[.pointer (some ⟨cq,0,none⟩)]] w fun e w'=>e=.returned (fstR f code ls)∧Below w.heap.size w w':=by
 obtain⟨_,a,cap,rfl,hcap,hmx,hc⟩:=h;unfold maxLen at hmx;have HF:=Nm.hide hf;clear hf;go_enter Tryz.func87,Tryz.ntmps87;go_wp2
 go_loopw [15] (fun i wr=>∃ k:Nat,k<=ls.length∧i=.int .i64 k∧(∀ j x,j<k->ls[j]? =some x->f x=false)∧Below w.heap.size w wr) (fun i _=>ls.length-(intOf i).toNat)
 case atStart=>exact⟨0,Nat.zero_le _,rfl,fun j x hj=>absurd hj (Nat.not_lt_zero _),Below.refl _ _⟩
 case round=>
  obtain⟨k,hk',rfl,hno,hbel⟩:=hrel;have HR:=Nm.hide (And.intro hno hbel)
  by_cases hlt:k<ls.length
  ·obtain⟨x,hx⟩:∃ x,ls[k]? =some x:=⟨_,List.getElem?_eq_getElem hlt⟩;obtain⟨b,off,rfl,hcell⟩:=hc (by omega);have put:∀ {O:Nat} {z:Value},w.cell? ⟨b,O,none⟩=some z->wr.cell? ⟨b,O,none⟩=some z:=fun h=>(hbel.cell (World.block_lt_of_cell? w _ h)).trans h
   have d0:=put (hcell (k*4) _ (ld_at ls k 0 x hx (by decide)));have d1:=put (hcell (k*4+1) _ (ld_at ls k 1 x hx (by decide)));have d2:=put (hcell (k*4+2) _ (ld_at ls k 2 x hx (by decide)));have d3:=put (hcell (k*4+3) _ (ld_at ls k 3 x hx (by decide)));simp only [<- Nat.add_assoc] at d1 d2 d3;have hfx:=HF.out x (List.mem_of_getElem? hx) (wr.alloc (.cells #[.int .i64 (x.at_:Int),.int .i64 x.ty,.pointer (some ⟨x.ob,0,none⟩),.pointer (some ⟨x.sb,0,none⟩)] 129)) (hbel.alloc hbel.size _);have kb:=blk_new wr #[.int .i64 (x.at_:Int),.int .i64 x.ty,.pointer (some ⟨x.ob,0,none⟩),.pointer (some ⟨x.sb,0,none⟩)] 129;have hb1:=hbel.alloc hbel.size (.cells #[.int .i64 (x.at_:Int),.int .i64 x.ty,.pointer (some ⟨x.ob,0,none⟩),.pointer (some ⟨x.sb,0,none⟩)] 129);have HX:=Nm.hide hx;have i1:(0:Int)<=(k:Int):=by omega
   have i2:(k:Int)<(ls.length:Int):=by omega
   clear hc hcell hx hno hbel put hk;simp only [World.size_alloc] at hfx;go_wp2_with fail
   refine hfx.mono ?_;rintro e w2 ⟨rfl,b2⟩;have kb2:=blk_below kb (by simpa using b2);have rb2:=fun i=>blk_cell kb2 i
   have hB2:=Nm.below_two hb1 (by simpa using b2);clear hfx d0 d1 d2 d3
   cases hfv:f x with
   |true=>
    have HV:=Nm.hide hfv;clear hfv;go_wp2;go_region
    all_goals go_wp2
    all_goals go_ret2
    all_goals exact⟨by rw [fst_at HR.out.1 HX.out HV.out];rfl,hB2.drew⟩
   |false=>
    have HV:=Nm.hide hfv;clear hfv;go_wp2;go_roundw
    case rel=>
     refine⟨k+1,by omega,by go_num,fun j y hj hy=>?_,hB2⟩
     rcases Nat.lt_succ_iff_lt_or_eq.1 hj with h1|rfl
     ·exact HR.out.1 j y h1 hy
     ·rw [HX.out] at hy;cases hy;exact HV.out
    case measure=>simp [intOf];omega
  ·have hke:k=ls.length:=by omega
   subst hke;clear hc hno hbel;go_wp2;go_ret2;exact⟨by rw [fst_no HR.out.1];rfl,HR.out.2⟩
end Go.Proofs.YtmdinnjimioffaaGreat
