import Derived.Test.YtahpiciofdfipaaGreatNzT
import Derived.Test.YtahpiciofdfipaaGreatCzO
import Derived.Test.YtahpiciofdfipaaGreatJNqA
import Derived.Test.YtahpiciofdfipaaGreatJTrD
import Derived.Test.YtahpiciofdfipaaGreatJCzS
import Derived.Test.YtahpiciofdfipaaGreatJTrP
import Derived.Test.YtahpiciofdfipaaGreatJTbPL
import Derived.Test.YtahpiciofdfipaaGreatJNameOKs
import Derived.Test.YtahpiciofdfipaaGreatJCmpM
namespace Go.Proofs.YtahpiciofdfipaaGreat
open Go.RowKit
set_option linter.unusedVariables false
theorem nz_names{ps:List Zp}{o:ByteArray}{bb:Nat}{lv:Value}{th:Nat}{ys:List ByteArray}{aa:Option Addr}{ac:Nat}{labv rv:Value}{os:List GOw}{kv:Value}{ks:List Ld}{B:Nat}{W:World}(hP:P3 (zoneRecs ps) o bb lv th ys aa ac labv rv os kv ks B W)(hz:zOK ps o=true):
 Calls Tryz.prog 23 #[.pointer (some ⟨bb,3,none⟩)] W fun e W'=>∃ v,e=.returned v∧W'.ownsRow W.heap.size 9 1 v (zNm ps o).length ((zNm ps o).map fun x=>Value.string (joB x))∧Below W.heap.size W W':=by
 have hzs:ps.map (·.1)=zoneT os:=by rw [<- (zOK_recs hz).2,zone_eq hP.st.inv hP.good.1 hP.mix]
 have hT:=tz_of hP.st.inv hP.good.1 hP.good.2 hP.ap hz hzs;have hol:=hP.st.inv.len.1;have hl5:=hP.hl;rw [List.length_map] at hol;rw [znm_tree hT hzs];exact names_any bb 3 th rv os B aa ac ys W hP.st.tr (by omega) hP.st.lab (fun q hq=>⟨gl_split (hT.nm q hq),(under_iff.1 (hT.und q hq)).1⟩) ((blk_cell hP.kb 4).trans rfl) ((blk_cell hP.kb 3).trans rfl)
set_option maxRecDepth 100000 in
set_option maxHeartbeats 1600000 in
theorem implZoneNames_any(o:ByteArray)(v:Value)(ps:List Zp)(w:World)(h:ZRow w v ps)(hs:zsum ps<=1048576)(hf:∀ p∈ps,p.1.own.size<=1048576∧∀ x∈p.1.da,x.size<=1048576)(ha:o.size<=1000000000):
 Calls Tryz.prog 8 #[.agg #[.string o,v]] w (ZnP (znR ps o) w):=by
 obtain⟨va,vc,rfl⟩:∃ va vc,v=.slice va ps.length vc:=by obtain⟨⟨_,a,c,e,_⟩,_⟩:=h;exact⟨a,c,e⟩
 have b0:=(Below.refl w.heap.size w).alloc (Nat.le_refl _) (.cells #[.string o,.slice va ps.length vc] 25);have k0:=blk_new w #[.string o,.slice va ps.length vc] 25;have hop:=openZone_any o (.slice va ps.length vc) ps _ (h.below b0) hs hf ha;have r0:=fun i=>blk_cell k0 i
 obtain⟨R,hR⟩:∃ R,R=znR ps o:=⟨_,rfl⟩;have HR:=Nm.hide hR;rw [<- hR];clear h hf hs hR;go_enter Tryz.func8,Tryz.ntmps8;go_wp2_with fail
 refine hop.mono ?_;rintro e w1 ⟨hb1,⟨hz,rfl⟩|⟨hz,bb,lv,th,ys,aa,ac,labv,rv,os,kv,ks,B,rfl,hP⟩⟩
 ·have hR0:R=([],32):=by rw [HR.out,znR,hz];rfl
  have bw1:=Nm.below_two b0 hb1;clear HR hz hop k0 b0 hb1 r0;subst hR0;go_wp2;go_ret2;exact znP_none bw1
 ·have bw1:=Nm.below_two b0 hb1;have hR1:R=(zNm ps o,0):=by rw [HR.out,znR,if_pos hz]
  have hnm:=nz_names hP hz;clear HR hz hop k0 b0 hb1 r0 hP;subst hR1;generalize zNm ps o=N at*;go_wp2_with fail
  refine hnm.mono ?_;rintro e w2 ⟨u,rfl,hou,b2⟩;have HP:Hid (ZnP (N,0) w (.returned (.tuple #[u,.int .i64 0])) w2):=⟨_,rfl,own_base hou bw1.size,Nm.below_two bw1 b2⟩;obtain⟨ua,uc,eu⟩:=own_sl hou;subst eu;clear hou b2 bw1 hnm;go_wp2;go_ret2;exact HP.out
structure NqS (w:World) (zb nb g cp L:Nat) (o clo cut:ByteArray) (v tv:Value) (kd:Int) (ps:List Zp) (N:List ByteArray) (B:Nat) (W:World):Prop where
 b:Below w.heap.size w W
 k:Blk W zb #[.string o,v] 25
 z:ZRow W v ps
 s:W.ownsRow B 9 1 (.slice (some ⟨g,0,none⟩) L cp) L (N.map Value.string)
 n:Blk W nb #[.int .i64 kd,.string clo,.string cut,tv] 32
 h:w.heap.size<=W.heap.size
theorem NqS.below{w:World}{zb nb g cp L B:Nat}{o clo cut:ByteArray}{v tv:Value}{kd:Int}{ps:List Zp}{N:List ByteArray}{W W1:World}(h:NqS w zb nb g cp L o clo cut v tv kd ps N B W)(hb:Below W.heap.size W W1):NqS w zb nb g cp L o clo cut v tv kd ps N B W1:=
 ⟨Nm.below_two h.b hb,blk_below h.k hb,h.z.below hb,own_below h.s hb,blk_below h.n hb,Nat.le_trans h.h hb.size⟩
set_option maxRecDepth 100000 in
set_option maxHeartbeats 12800000 in
theorem fnNames_any(a:Option Addr)(n cap:Nat)(w:World)(hn:n<=maxLen)(HD:n<=1048576->Calls Tryz.prog 4 #[.slice a n cap] w (DfP w)):
 Calls Tryz.prog 3 #[.slice a n cap] w fun e w'=>e=.returned (.bool true)∧Below w.heap.size w w':=by
 unfold maxLen at hn
 by_cases hl:1048576<n
 ·have hl':(1048576:Int)<(n:Int):=by omega
  clear HD;go_enter Tryz.func3,Tryz.ntmps3;go_wp2;go_ret;exact⟨rfl,Below.refl _ _⟩
 have hl':¬(1048576:Int)<(n:Int):=by omega
 have hd:=HD (by omega);clear HD hl;go_enter Tryz.func3,Tryz.ntmps3;go_wp2_with fail
 refine hd.mono ?_;rintro e w1 ⟨o,name,v,ps,rfl,ho,hnm,hzl,hz,b1⟩;obtain⟨va,vc,rfl⟩:∃ va vc,v=.slice va ps.length vc:=by obtain⟨⟨_,a,c,e,_⟩,_⟩:=hz;exact⟨a,c,e⟩
 have bA:=(Below.refl w1.heap.size w1).alloc (Nat.le_refl _) (.cells #[.string o,.slice va ps.length vc] 25);have kA:=blk_new w1 #[.string o,.slice va ps.length vc] 25;have bw1:=Nm.below_two b1 bA;obtain⟨WA,HWA⟩:∃ WA,Hid (WA=w1.alloc (.cells #[.string o,.slice va ps.length vc] 25)):=⟨_,rfl⟩
 have HUP:Hid (∀ W,Below (w1.heap.size+1) WA W->Below w.heap.size w W∧Blk W w1.heap.size #[.string o,.slice va ps.length vc] 25∧ZRow W (.slice va ps.length vc) ps∧w1.heap.size+1<=W.heap.size):=by
  intro W hW;have e:w1.heap.size+1=WA.heap.size:=by rw [HWA.out];simp
  rw [e] at hW;have hW2:=hW;rw [HWA.out] at hW;exact⟨Nm.below_two bw1 hW,blk_below kA hW,(hz.below bA).below hW,by rw [e];exact hW2.size⟩
 have bR:Below (w1.heap.size+1) WA (w1.alloc (.cells #[.string o,.slice va ps.length vc] 25)):=by rw [HWA.out];exact Below.refl _ _
 have hzf:∀ p∈ps,p.1.own.size<=1048576∧∀ x∈p.1.da,x.size<=1048576:=fun p hp=>⟨(hzl.2.2 p hp).1,(hzl.2.2 p hp).2.2⟩
 have HCK:=Nm.hide (fun W (hW:Below (w1.heap.size+1) WA W)=>specCheckZone_any o (.slice va ps.length vc) ps W (HUP.out W hW).2.2.1 hzl.1 hzl.2.1 hzf (by unfold maxLen;omega));have HNO:=Nm.hide (fun W=>specNameOK_any name W (by unfold maxLen;omega));have HUN:=Nm.hide (fun W=>specIsUnder_any name o W (by unfold maxLen;omega) (by unfold maxLen;omega));have HZN:=Nm.hide (fun W (hW:Below (w1.heap.size+1) WA W)=>implZoneNames_any o (.slice va ps.length vc) ps W (HUP.out W hW).2.2.1 hzl.1 hzf (by omega));have HFN:=Nm.hide (fun W (hW:Below (w1.heap.size+1) WA W)=>implFindNode_any o name (.slice va ps.length vc) ps W (HUP.out W hW).2.2.1 hzl.1 hzf (by omega) (by omega));have HPS:=Nm.hide (fun p (hp:p∈ps)=>(hzl.2.2 p hp).1);have HPL:Hid (ps.length<=1048576):=hzl.2.1;have HQA:=Nm.hide (fun(h:zOK ps o=true) (h2:(Nm.split name).isSome=true)=>nq_all (name:=name) h h2);have HZR:Hid (zOK ps o=true->znR ps o=(zNm ps o,0)):=fun h=>by rw [znR,if_pos h]
 have HNB0:Hid (¬(zOK ps o=true∧(Nm.split name).isSome=true)->ndR ps o name=(nd0,32)):=fun h=>by rw [ndR,if_neg h]
 clear hz hzl hzf bA bw1 b1 hd;have kz0:=(HUP.out _ bR).2.1;have rz0:=fun i=>blk_cell kz0 i
 have hck:=HCK.out _ bR
 cases hzo:zOK ps o with
 |false=>
  rw [hzo] at hck;simp only [Bool.false_eq_true,if_false] at hck;have HNB:=Nm.hide (HNB0.out (by rw [hzo];simp));clear HNB0 HZR HQA HUN HZN HCK hzo HPS HPL HNO;go_wp2_with fail
  refine hck.mono ?_;rintro e w2 ⟨rfl,b2⟩;have bR9:=bR.trans (b2.mono (by simp));clear hck b2 rz0 kz0 bR;have hfn:=HFN.out _ bR9;rw [HNB.out] at hfn;have rz9:=fun i=>blk_cell (HUP.out _ bR9).2.1 i
  go_wp2_with fail
  refine hfn.mono ?_;rintro e w9 ⟨u,rfl,hou,b9⟩;obtain⟨ua,uc,rfl⟩:=own_sl hou;have bwA:=(HUP.out _ (bR9.trans (b9.mono (HUP.out _ bR9).2.2.2))).1;have bw:=bwA.alloc bwA.size (.cells #[.int .i64 nd0.kd,.string nd0.clo,.string nd0.cut,.slice ua nd0.ty.length uc] 32);clear hfn hou b9 rz9;go_wp2;go_ret
  exact⟨rfl,bw⟩
 |true=>
  rw [hzo] at hck;simp only [if_true] at hck
  cases hno:(Nm.split name).isSome with
  |false=>
   have HNB:=Nm.hide (HNB0.out (by rw [hno];simp));have hnk:=fun W=>HNO.out W
   rw [hno] at hnk;have HNK:=Nm.hide hnk;clear HNB0 HZR HQA HUN HZN HCK hzo HPS HPL HNO hno hnk;go_wp2_with fail
   refine hck.mono ?_;rintro e w2 ⟨rfl,b2⟩;have bR2:=bR.trans (b2.mono (by simp));clear hck b2 rz0 kz0 bR;go_wp2_with fail
   refine(HNK.out w2).mono ?_;rintro e w3 ⟨rfl,b3⟩;have bR9:=bR2.trans (b3.mono (HUP.out _ bR2).2.2.2);clear b3 bR2 HNK;have hfn:=HFN.out _ bR9;rw [HNB.out] at hfn;have rz9:=fun i=>blk_cell (HUP.out _ bR9).2.1 i
   go_wp2_with fail
   refine hfn.mono ?_;rintro e w9 ⟨u,rfl,hou,b9⟩;obtain⟨ua,uc,rfl⟩:=own_sl hou;have bwA:=(HUP.out _ (bR9.trans (b9.mono (HUP.out _ bR9).2.2.2))).1;have bw:=bwA.alloc bwA.size (.cells #[.int .i64 nd0.kd,.string nd0.clo,.string nd0.cut,.slice ua nd0.ty.length uc] 32);clear hfn hou b9 rz9;go_wp2;go_ret
   exact⟨rfl,bw⟩
  |true=>
   obtain⟨nd,T,hnd,F⟩:=HQA.out hzo hno;obtain⟨kd,clo,cut,ty⟩:=nd;have hnk:=fun W=>HNO.out W
   rw [hno] at hnk;have HNK:=Nm.hide hnk;have HFZ:Hid (∀ W,Below (w1.heap.size+1) WA W->Calls Tryz.prog 7 #[.agg #[.string o,.slice va ps.length vc],.string name] W (NdP (⟨kd,clo,cut,ty⟩,0) W)):=fun W hW=>by rw [<- hnd];exact HFN.out W hW
   have HNZ:Hid (∀ W,Below (w1.heap.size+1) WA W->Calls Tryz.prog 8 #[.agg #[.string o,.slice va ps.length vc]] W fun e w'=>∃ u,e=.returned (.tuple #[u,.int .i64 0])∧w'.ownsRow W.heap.size 9 1 u (nmsZ ps o).length ((nmsZ ps o).map Value.string)∧Below W.heap.size W w'):=fun W hW=>by
    refine(HZN.out W hW).mono ?_;rintro e w' ⟨u,h1,h2,h3⟩;rw [HZR.out hzo] at h1 h2;exact⟨u,h1,by rw [nmsZ,List.length_map,List.map_map];exact h2,h3⟩
   simp only at F
   generalize nmsZ ps o=N at*;have HF:=Nm.hide F;clear HNB0 HZR HQA HZN HFN HCK hzo HNO hno hnk hnd F;go_wp2_with fail
   refine hck.mono ?_;rintro e w2 ⟨rfl,b2⟩;have bR2:=bR.trans (b2.mono (by simp));have rz2:=fun i=>blk_cell (HUP.out _ bR2).2.1 i
   clear hck b2 rz0 kz0 bR;go_wp2_with fail
   refine(HNK.out w2).mono ?_;rintro e w3 ⟨rfl,b3⟩;have bR3:=bR2.trans (b3.mono (HUP.out _ bR2).2.2.2);have rz3:=fun i=>blk_cell (HUP.out _ bR3).2.1 i
   clear b3 bR2 HNK rz2;go_wp2_with fail
   refine(HNZ.out _ bR3).mono ?_;rintro e w4 ⟨u,rfl,hou,b4⟩
   obtain⟨g,cp,rfl⟩:∃ g cp,u=.slice (some ⟨g,0,none⟩) N.length cp:=by
    rcases hou.2 with⟨_,h0⟩|⟨g,cp,_,e,_⟩
    ·have:=HF.out.pos;omega
    ·exact⟨g,cp,e⟩
   have bR4:=bR3.trans (b4.mono (HUP.out _ bR3).2.2.2);have rz4:=fun i=>blk_cell (HUP.out _ bR4).2.1 i
   obtain⟨L,HL⟩:∃ L,Hid (N.length=L):=⟨_,rfl⟩;have hL0:0<L:=by have:=HF.out.pos;have:=HL.out;omega
   have hLM:L<=maxLen:=by
    rcases hou.2 with⟨_,h0⟩|⟨_,_,_,e,_,_,h1,h2,_⟩
    ·rw [HL.out] at h0;rw [h0];exact Nat.zero_le _
    ·simp only [Value.slice.injEq] at e;rw [HL.out] at h1;omega
   unfold maxLen at hLM;have hLe:((L:Int)==0)=false:=by rw [beq_eq_false_iff_ne];omega
   rw [HL.out] at hou ⊢;clear b4 bR3 rz3 HNZ;go_wp2_with fail
   refine(HFZ.out _ bR4).mono ?_;rintro e w5 ⟨u5,rfl,hou5,b5⟩;obtain⟨ya,yc,rfl⟩:=own_sl hou5;have bR5:=bR4.trans (b5.mono (HUP.out _ bR4).2.2.2);have bA5:=(Below.refl w5.heap.size w5).alloc (Nat.le_refl _) (.cells #[.int .i64 kd,.string clo,.string cut,.slice ya ty.length yc] 32)
   have S5:NqS w w1.heap.size w5.heap.size g cp L o clo cut (.slice va ps.length vc) (.slice ya ty.length yc) kd ps N w3.heap.size (w5.alloc (.cells #[.int .i64 kd,.string clo,.string cut,.slice ya ty.length yc] 32)):=by
    obtain⟨h1,h2,h3,h4⟩:=HUP.out _ bR5;exact⟨Nm.below_two h1 bA5,blk_below h2 bA5,h3.below bA5,own_below (own_below hou b5) bA5,blk_new w5 _ _,by have:=h1.size;simp;omega⟩
   have HAM:Hid (∀ (x:ByteArray),x.size<=maxLen->∀ W,NqS w w1.heap.size w5.heap.size g cp L o clo cut (.slice va ps.length vc) (.slice ya ty.length yc) kd ps N w3.heap.size W->Calls Tryz.prog 9 #[.slice (some ⟨g,0,none⟩) L cp,.string x] W fun e w'=>e=.returned (.bool (amg N x))∧Below W.heap.size W w'):=fun x hx W S=>
    lwAmong_any (.slice (some ⟨g,0,none⟩) L cp) N x W (Nm.SRow.of_owns (by rw [HL.out];exact S.s)) (fun y hy=>by have:=(HF.out.sz y hy).1;unfold maxLen;omega) hx
   have HSM:=Nm.hide (fun(x:ByteArray) (hx:x.size<=255) W=>specSameName_any x o W (by unfold maxLen;omega) (by unfold maxLen;omega));have HCM:=Nm.hide (fun(x y:ByteArray) (hx:x.size<=255) (hy:y.size<=255) W=>specCompareNames_any x y W (by unfold maxLen;omega) (by unfold maxLen;omega));have HAN:=Nm.hide (fun(x:ByteArray) (hx:x.size<=255) W=>specAncestor_any x 1 W (by unfold maxLen;omega));have hapx:=HAM.out o (by unfold maxLen;omega) _ S5;rw [HF.out.ap] at hapx;have r5:=fun i=>blk_cell S5.k i
   generalize w3.heap.size=B3 at*;clear hou hou5 b5 bR4 bR5 bA5 HUP HFZ HWA rz4;go_wp2_with fail
   refine hapx.mono ?_;rintro e w6 ⟨rfl,b6⟩;have S6:=S5.below b6;clear hapx S5 r5 b6 hLe;generalize w5.heap.size=nb at*;generalize w1.heap.size=zb at*;go_wp2_with fail
   go_loopw [11] (fun iv wr=>∃ j:Nat,j<=L∧iv=.int .i64 j∧NqS w zb nb g cp L o clo cut (.slice va ps.length vc) (.slice ya ty.length yc) kd ps N B3 wr) (fun iv _=>L-(intOf iv).toNat)
   case atStart=>exact⟨0,Nat.zero_le _,rfl,S6⟩
   case round=>
    clear S6;obtain⟨j,hj,rfl,S⟩:=hrel
    by_cases hlt:j<L
    ·obtain⟨x,hx⟩:∃ x,N[j]? =some x:=⟨_,List.getElem?_eq_getElem (by rw [HL.out];exact hlt)⟩;obtain⟨k,y,hkj,hjk,hy⟩:∃ k y,k<=j∧(0<j->j=k+1)∧N[k]? =some y:=⟨j-1,_,by omega,by omega,List.getElem?_eq_getElem (by rw [HL.out];omega)⟩;have hxz:=(HF.out.sz x (List.mem_of_getElem? hx)).1;have hyz:=(HF.out.sz y (List.mem_of_getElem? hy)).1
     have HST:Hid (∀ W,NqS w zb nb g cp L o clo cut (.slice va ps.length vc) (.slice ya ty.length yc) kd ps N B3 W->W.cell? ⟨g,j,none⟩=some (.string x)∧W.cell? ⟨g,k,none⟩=some (.string y)∧W.cell? ⟨zb,0,none⟩=some (.string o)):=fun W hW=>
      ⟨(hW.s.cellAt j (by omega)).trans (by rw [List.getElem?_map,hx];rfl),(hW.s.cellAt k (by omega)).trans (by rw [List.getElem?_map,hy];rfl),(blk_cell hW.k 0).trans rfl⟩
     have HUP2:=Nm.hide (HF.out.up x (List.mem_of_getElem? hx));have hupz0:=(HF.out.sz x (List.mem_of_getElem? hx)).2;have HOR:Hid (0<j->Nm.cmpS y x<0):=fun h0=>HF.out.ord k y x hy (by rw [<- hjk h0];exact hx)
     have hanc:=HAN.out x hxz wr;obtain⟨c0,-,-⟩:=HST.out _ S;have i1:(0:Int)<=(j:Int):=by omega
     have i2:(j:Int)<(L:Int):=by omega
     generalize (ancS x 1).1=up at*;generalize (ancS x 1).2=uc at*;clear hx hy;go_wp2_with fail
     refine hanc.mono ?_;rintro e w2 ⟨rfl,b2⟩;have S2:=(S.below b2).below (Below.refl _ _).drew;have hupz:up.size<=maxLen:=by unfold maxLen;omega
     have hS2:=HST.out _ S2;clear hanc b2 S c0;go_wp2_with fail
     refine wp_region_last (fun X=>X.cell? ⟨g,j,none⟩=some (.string x)∧X.cell? ⟨g,k,none⟩=some (.string y)∧X.cell? ⟨zb,0,none⟩=some (.string o)) 1000 (by kernel_rfl) hS2 (fun hHeld=>?_);refine wpAnyL_take (i:=0) (v:=?_) rfl (by kernel_rfl) (by kernel_rfl) (by kernel_rfl) (by kernel_rfl) (fun _ _ _ h=>h) (Or.inl ⟨by kernel_rfl,?_⟩) (by assumption) ?_;rotate_left 1
     ·(intro W hSW;obtain⟨s1,s2,s3⟩:=hSW;go_simp;try (with_reducible rfl))
     by_cases j0:0<j
     case' pos=>
      have e0:(0:Int)<(j:Int):=by omega
      have e1:(j:Int)-1=(k:Int):=by have:=hjk j0;omega
      have k1:(0:Int)<=(k:Int):=by omega
      have k2:(k:Int)<(L:Int):=by omega
      have hwk:IntKind.i64.wrap (k:Int)=(k:Int):=Go.wrap_small _ (by omega) (by omega);have hcm0:=HCM.out y x hyz hxz w2.drew;have hnc:¬(0:Int)<=Nm.cmpS y x:=by have:=HOR.out j0;omega
      clear hjk hkj;refine wpAnyL_take (i:=1) (v:=?_) rfl (by kernel_rfl) (by kernel_rfl) (by kernel_rfl) (by kernel_rfl) (fun _ _ _ h=>h) (Or.inl ⟨by kernel_rfl,?_⟩) (by assumption) ?_;rotate_left 1
      ·(intro W hSW;obtain⟨s1,s2,s3⟩:=hSW;go_simp;try (with_reducible rfl))
      refine wpAnyL_take (i:=2) (v:=?_) rfl (by kernel_rfl) (by kernel_rfl) (by kernel_rfl) (by kernel_rfl) (fun _ _ _ h=>h) (Or.inl ⟨by kernel_rfl,?_⟩) (by assumption) ?_;rotate_left 1
      ·(intro W hSW;obtain⟨s1,s2,s3⟩:=hSW;go_simp;try (with_reducible rfl))
      refine wpAnyL_take (i:=3) (v:=?_) rfl (by kernel_rfl) (by kernel_rfl) (by kernel_rfl) (by kernel_rfl) (fun _ _ _ h=>h) (Or.inl ⟨by kernel_rfl,?_⟩) (by assumption) ?_;rotate_left 1
      ·(intro W hSW;obtain⟨s1,s2,s3⟩:=hSW;go_simp;try (with_reducible rfl))
      refine wpAnyL_take (i:=4) (v:=?_) rfl (by kernel_rfl) (by kernel_rfl) (by kernel_rfl) (by kernel_rfl) (fun _ _ _ h=>h) (Or.inl ⟨by kernel_rfl,?_⟩) (by assumption) ?_;rotate_left 1
      ·(intro W hSW;obtain⟨s1,s2,s3⟩:=hSW;go_simp;try (with_reducible rfl))
      refine wpAnyL_take (i:=5) (v:=?_) rfl (by kernel_rfl) (by kernel_rfl) (by kernel_rfl) (by kernel_rfl) (fun _ _ _ h=>h) (Or.inl ⟨by kernel_rfl,?_⟩) (by assumption) ?_;rotate_left 1
      ·(intro W hSW;obtain⟨s1,s2,s3⟩:=hSW;go_simp;try (with_reducible rfl))
      refine wpAnyL_take (i:=6) (v:=?_) rfl (by kernel_rfl) (by kernel_rfl) (by kernel_rfl) (by kernel_rfl) (fun _ _ _ h=>h) (Or.inl ⟨by kernel_rfl,?_⟩) (by assumption) ?_;rotate_left 1
      ·(intro W hSW;obtain⟨s1,s2,s3⟩:=hSW;go_simp;try (with_reducible rfl))
      refine wpAnyL_take (i:=7) (v:=?_) rfl (by kernel_rfl) (by kernel_rfl) (by kernel_rfl) (by kernel_rfl) (fun _ _ _ h=>h) (Or.inl ⟨by kernel_rfl,?_⟩) (by assumption) ?_;rotate_left 1
      ·(intro W hSW;obtain⟨s1,s2,s3⟩:=hSW;go_simp;try (with_reducible rfl))
      refine wpAnyL_take (i:=8) (v:=?_) rfl (by kernel_rfl) (by kernel_rfl) (by kernel_rfl) (by kernel_rfl) (fun _ _ _ h=>h) (Or.inl ⟨by kernel_rfl,?_⟩) (by assumption) ?_;rotate_left 1
      ·(intro W hSW;obtain⟨s1,s2,s3⟩:=hSW;go_simp;try (with_reducible rfl))
      refine wpAnyL_take (i:=9) (v:=?_) rfl (by kernel_rfl) (by kernel_rfl) (by kernel_rfl) (by kernel_rfl) (fun _ _ _ h=>h) (Or.inl ⟨by kernel_rfl,?_⟩) (by assumption) ?_;rotate_left 1
      ·(intro W hSW;obtain⟨s1,s2,s3⟩:=hSW;go_simp;try (with_reducible rfl))
      refine wpAnyL_take (i:=10) (v:=?_) rfl (by kernel_rfl) (by kernel_rfl) (by kernel_rfl) (by kernel_rfl) (fun _ _ _ h=>h) (Or.inl ⟨by kernel_rfl,?_⟩) (by assumption) ?_;rotate_left 1
      ·(intro W hSW;obtain⟨s1,s2,s3⟩:=hSW;go_simp;try (with_reducible rfl))
      refine wpAnyL_take (i:=11) (v:=?_) rfl (by kernel_rfl) (by kernel_rfl) (by kernel_rfl) (by kernel_rfl) (fun _ _ _ h=>h) (Or.inl ⟨by kernel_rfl,?_⟩) (by assumption) ?_;rotate_left 1
      ·(intro W hSW;obtain⟨s1,s2,s3⟩:=hSW;go_simp;try (with_reducible rfl))
      refine wpAnyL_one (i:=12) (by kernel_rfl) rfl (fun K hK=>?_);go_simp;refine hcm0.mono ?_;rintro e w3 ⟨rfl,b3⟩;have S3:=S2.below b3;have HS3:=HST.out _ S3;clear hcm0 b3 S2 hS2;go_wp2_with fail
      refine hK.out _ _ HS3 (fun hHeld=>?_);clear hK K;have hnd:¬(0:Int)<=Nm.cmpS y x:=by omega
      refine wpAnyL_take (i:=13) (v:=?_) rfl (by kernel_rfl) (by kernel_rfl) (by kernel_rfl) (by kernel_rfl) (fun _ _ _ h=>h) (Or.inl ⟨by kernel_rfl,?_⟩) (by assumption) ?_;rotate_left 1
      ·(intro W hSW;obtain⟨s1,s2,s3⟩:=hSW;go_simp;try (with_reducible rfl))
      refine wpAnyL_take (i:=14) (v:=?_) rfl (by kernel_rfl) (by kernel_rfl) (by kernel_rfl) (by kernel_rfl) (fun _ _ _ h=>h) (Or.inl ⟨by kernel_rfl,?_⟩) (by assumption) ?_;rotate_left 1
      ·(intro W hSW;obtain⟨s1,s2,s3⟩:=hSW;go_simp;try (with_reducible rfl))
      refine wpAnyL_take (i:=15) (v:=?_) rfl (by kernel_rfl) (by kernel_rfl) (by kernel_rfl) (by kernel_rfl) (fun _ _ _ h=>h) (Or.inl ⟨by kernel_rfl,?_⟩) (by assumption) ?_;rotate_left 1
      ·(intro W hSW;obtain⟨s1,s2,s3⟩:=hSW;go_simp;try (with_reducible rfl))
      clear j0
     case' neg=>
      have e0:¬(0:Int)<(j:Int):=by omega
      have S3:=S2;generalize w2.drew=w3 at*;refine wpAnyL_take (i:=1) (v:=?_) rfl (by kernel_rfl) (by kernel_rfl) (by kernel_rfl) (by kernel_rfl) (fun _ _ _ h=>h) (Or.inl ⟨by kernel_rfl,?_⟩) (by assumption) ?_;rotate_left 1
      ·(intro W hSW;obtain⟨s1,s2,s3⟩:=hSW;go_simp;try (with_reducible rfl))
      refine wpAnyL_take (i:=2) (v:=?_) rfl (by kernel_rfl) (by kernel_rfl) (by kernel_rfl) (by kernel_rfl) (fun _ _ _ h=>h) (Or.inl ⟨by kernel_rfl,?_⟩) (by assumption) ?_;rotate_left 1
      ·(intro W hSW;obtain⟨s1,s2,s3⟩:=hSW;go_simp;try (with_reducible rfl))
      refine wpAnyL_take (i:=3) (v:=undef) rfl (by kernel_rfl) (by kernel_rfl) (by kernel_rfl) (by kernel_rfl) (fun _ _ _ h=>h) (Or.inr ⟨by kernel_rfl,rfl⟩) (by assumption) ?_;refine wpAnyL_take (i:=4) (v:=undef) rfl (by kernel_rfl) (by kernel_rfl) (by kernel_rfl) (by kernel_rfl) (fun _ _ _ h=>h) (Or.inr ⟨by kernel_rfl,rfl⟩) (by assumption) ?_;refine wpAnyL_take (i:=5) (v:=undef) rfl (by kernel_rfl) (by kernel_rfl) (by kernel_rfl) (by kernel_rfl) (fun _ _ _ h=>h) (Or.inr ⟨by kernel_rfl,rfl⟩) (by assumption) ?_;refine wpAnyL_take (i:=6) (v:=undef) rfl (by kernel_rfl) (by kernel_rfl) (by kernel_rfl) (by kernel_rfl) (fun _ _ _ h=>h) (Or.inr ⟨by kernel_rfl,rfl⟩) (by assumption) ?_;refine wpAnyL_take (i:=7) (v:=undef) rfl (by kernel_rfl) (by kernel_rfl) (by kernel_rfl) (by kernel_rfl) (fun _ _ _ h=>h) (Or.inr ⟨by kernel_rfl,rfl⟩) (by assumption) ?_;refine wpAnyL_take (i:=8) (v:=undef) rfl (by kernel_rfl) (by kernel_rfl) (by kernel_rfl) (by kernel_rfl) (fun _ _ _ h=>h) (Or.inr ⟨by kernel_rfl,rfl⟩) (by assumption) ?_;refine wpAnyL_take (i:=9) (v:=undef) rfl (by kernel_rfl) (by kernel_rfl) (by kernel_rfl) (by kernel_rfl) (fun _ _ _ h=>h) (Or.inr ⟨by kernel_rfl,rfl⟩) (by assumption) ?_;refine wpAnyL_take (i:=10) (v:=undef) rfl (by kernel_rfl) (by kernel_rfl) (by kernel_rfl) (by kernel_rfl) (fun _ _ _ h=>h) (Or.inr ⟨by kernel_rfl,rfl⟩) (by assumption) ?_;refine wpAnyL_take (i:=11) (v:=undef) rfl (by kernel_rfl) (by kernel_rfl) (by kernel_rfl) (by kernel_rfl) (fun _ _ _ h=>h) (Or.inr ⟨by kernel_rfl,rfl⟩) (by assumption) ?_;refine wpAnyL_take (i:=12) (v:=undef) rfl (by kernel_rfl) (by kernel_rfl) (by kernel_rfl) (by kernel_rfl) (fun _ _ _ h=>h) (Or.inr ⟨by kernel_rfl,rfl⟩) (by assumption) ?_;refine wpAnyL_take (i:=13) (v:=undef) rfl (by kernel_rfl) (by kernel_rfl) (by kernel_rfl) (by kernel_rfl) (fun _ _ _ h=>h) (Or.inr ⟨by kernel_rfl,rfl⟩) (by assumption) ?_;refine wpAnyL_take (i:=14) (v:=?_) rfl (by kernel_rfl) (by kernel_rfl) (by kernel_rfl) (by kernel_rfl) (fun _ _ _ h=>h) (Or.inl ⟨by kernel_rfl,?_⟩) (by assumption) ?_;rotate_left 1
      ·(intro W hSW;obtain⟨s1,s2,s3⟩:=hSW;go_simp;try (with_reducible rfl))
      refine wpAnyL_take (i:=15) (v:=?_) rfl (by kernel_rfl) (by kernel_rfl) (by kernel_rfl) (by kernel_rfl) (fun _ _ _ h=>h) (Or.inl ⟨by kernel_rfl,?_⟩) (by assumption) ?_;rotate_left 1
      ·(intro W hSW;obtain⟨s1,s2,s3⟩:=hSW;go_simp;try (with_reducible rfl))
      clear S2 hS2 j0
     all_goals
      refine wpAnyL_take (i:=16) (v:=?_) rfl (by kernel_rfl) (by kernel_rfl) (by kernel_rfl) (by kernel_rfl) (fun _ _ _ h=>h) (Or.inl ⟨by kernel_rfl,?_⟩) (by assumption) ?_;rotate_left 1
      ·(intro W hSW;obtain⟨s1,s2,s3⟩:=hSW;go_simp;try (with_reducible rfl))
      refine wpAnyL_take (i:=17) (v:=?_) rfl (by kernel_rfl) (by kernel_rfl) (by kernel_rfl) (by kernel_rfl) (fun _ _ _ h=>h) (Or.inl ⟨by kernel_rfl,?_⟩) (by assumption) ?_;rotate_left 1
      ·(intro W hSW;obtain⟨s1,s2,s3⟩:=hSW;go_simp;try (with_reducible rfl))
      refine wpAnyL_take (i:=18) (v:=?_) rfl (by kernel_rfl) (by kernel_rfl) (by kernel_rfl) (by kernel_rfl) (fun _ _ _ h=>h) (Or.inl ⟨by kernel_rfl,?_⟩) (by assumption) ?_;rotate_left 1
      ·(intro W hSW;obtain⟨s1,s2,s3⟩:=hSW;go_simp;try (with_reducible rfl))
      refine wpAnyL_take (i:=19) (v:=?_) rfl (by kernel_rfl) (by kernel_rfl) (by kernel_rfl) (by kernel_rfl) (fun _ _ _ h=>h) (Or.inl ⟨by kernel_rfl,?_⟩) (by assumption) ?_;rotate_left 1
      ·(intro W hSW;obtain⟨s1,s2,s3⟩:=hSW;go_simp;try (with_reducible rfl))
      refine wpAnyL_take (i:=20) (v:=?_) rfl (by kernel_rfl) (by kernel_rfl) (by kernel_rfl) (by kernel_rfl) (fun _ _ _ h=>h) (Or.inl ⟨by kernel_rfl,?_⟩) (by assumption) ?_;rotate_left 1
      ·(intro W hSW;obtain⟨s1,s2,s3⟩:=hSW;go_simp;try (with_reducible rfl))
      refine wpAnyL_take (i:=21) (v:=?_) rfl (by kernel_rfl) (by kernel_rfl) (by kernel_rfl) (by kernel_rfl) (fun _ _ _ h=>h) (Or.inl ⟨by kernel_rfl,?_⟩) (by assumption) ?_;rotate_left 1
      ·(intro W hSW;obtain⟨s1,s2,s3⟩:=hSW;go_simp;try (with_reducible rfl))
      refine wpAnyL_one (i:=22) (by kernel_rfl) rfl (fun K hK=>?_);go_simp
      cases hso:sameS x o with
      |true=>
       have hsm:=HSM.out x hxz w3;rw [hso] at hsm;refine hsm.mono ?_;rintro e w4 ⟨rfl,b4⟩;have S4:=S3.below b4;have HS4:=HST.out _ S4;clear hsm b4 hso;go_wp2_with fail
       refine hK.out _ _ HS4 (fun hHeld=>?_);clear hK K;refine wpAnyL_take (i:=23) (v:=?_) rfl (by kernel_rfl) (by kernel_rfl) (by kernel_rfl) (by kernel_rfl) (fun _ _ _ h=>h) (Or.inl ⟨by kernel_rfl,?_⟩) (by assumption) ?_;rotate_left 1
       ·(intro W hSW;obtain⟨s1,s2,s3⟩:=hSW;go_simp;try (with_reducible rfl))
       refine wpAnyL_take (i:=24) (v:=?_) rfl (by kernel_rfl) (by kernel_rfl) (by kernel_rfl) (by kernel_rfl) (fun _ _ _ h=>h) (Or.inl ⟨by kernel_rfl,?_⟩) (by assumption) ?_;rotate_left 1
       ·(intro W hSW;obtain⟨s1,s2,s3⟩:=hSW;go_simp;try (with_reducible rfl))
       refine wpAnyL_take (i:=25) (v:=undef) rfl (by kernel_rfl) (by kernel_rfl) (by kernel_rfl) (by kernel_rfl) (fun _ _ _ h=>h) (Or.inr ⟨by kernel_rfl,rfl⟩) (by assumption) ?_;refine wpAnyL_take (i:=26) (v:=undef) rfl (by kernel_rfl) (by kernel_rfl) (by kernel_rfl) (by kernel_rfl) (fun _ _ _ h=>h) (Or.inr ⟨by kernel_rfl,rfl⟩) (by assumption) ?_;refine wpAnyL_take (i:=27) (v:=undef) rfl (by kernel_rfl) (by kernel_rfl) (by kernel_rfl) (by kernel_rfl) (fun _ _ _ h=>h) (Or.inr ⟨by kernel_rfl,rfl⟩) (by assumption) ?_;refine wpAnyL_take (i:=28) (v:=undef) rfl (by kernel_rfl) (by kernel_rfl) (by kernel_rfl) (by kernel_rfl) (fun _ _ _ h=>h) (Or.inr ⟨by kernel_rfl,rfl⟩) (by assumption) ?_;refine wpAnyL_take (i:=29) (v:=?_) rfl (by kernel_rfl) (by kernel_rfl) (by kernel_rfl) (by kernel_rfl) (fun _ _ _ h=>h) (Or.inl ⟨by kernel_rfl,?_⟩) (by assumption) ?_;rotate_left 1
       ·(intro W hSW;obtain⟨s1,s2,s3⟩:=hSW;go_simp;try (with_reducible rfl))
       refine wpAnyL_take (i:=30) (v:=?_) rfl (by kernel_rfl) (by kernel_rfl) (by kernel_rfl) (by kernel_rfl) (fun _ _ _ h=>h) (Or.inl ⟨by kernel_rfl,?_⟩) (by assumption) ?_;rotate_left 1
       ·(intro W hSW;obtain⟨s1,s2,s3⟩:=hSW;go_simp;try (with_reducible rfl))
       refine wpAnyL_done (by kernel_rfl) ?_;clear hHeld HS4
       try go_simp
       go_wp2;go_roundw
       case rel=>exact⟨j+1,hlt,by go_num,S4⟩
       case measure=>simp [intOf];omega
      |false=>
       have hsm:=HSM.out x hxz w3;rw [hso] at hsm;refine hsm.mono ?_;rintro e w4 ⟨rfl,b4⟩;have S4:=S3.below b4;have HS4:=HST.out _ S4;have ham:=HAM.out up hupz w4 S4;rw [HUP2.out hso] at ham;clear hsm b4 hso;go_wp2_with fail
       refine hK.out _ _ HS4 (fun hHeld=>?_);clear hK K;refine wpAnyL_take (i:=23) (v:=?_) rfl (by kernel_rfl) (by kernel_rfl) (by kernel_rfl) (by kernel_rfl) (fun _ _ _ h=>h) (Or.inl ⟨by kernel_rfl,?_⟩) (by assumption) ?_;rotate_left 1
       ·(intro W hSW;obtain⟨s1,s2,s3⟩:=hSW;go_simp;try (with_reducible rfl))
       refine wpAnyL_take (i:=24) (v:=?_) rfl (by kernel_rfl) (by kernel_rfl) (by kernel_rfl) (by kernel_rfl) (fun _ _ _ h=>h) (Or.inl ⟨by kernel_rfl,?_⟩) (by assumption) ?_;rotate_left 1
       ·(intro W hSW;obtain⟨s1,s2,s3⟩:=hSW;go_simp;try (with_reducible rfl))
       refine wpAnyL_take (i:=25) (v:=?_) rfl (by kernel_rfl) (by kernel_rfl) (by kernel_rfl) (by kernel_rfl) (fun _ _ _ h=>h) (Or.inl ⟨by kernel_rfl,?_⟩) (by assumption) ?_;rotate_left 1
       ·(intro W hSW;obtain⟨s1,s2,s3⟩:=hSW;go_simp;try (with_reducible rfl))
       refine wpAnyL_take (i:=26) (v:=?_) rfl (by kernel_rfl) (by kernel_rfl) (by kernel_rfl) (by kernel_rfl) (fun _ _ _ h=>h) (Or.inl ⟨by kernel_rfl,?_⟩) (by assumption) ?_;rotate_left 1
       ·(intro W hSW;obtain⟨s1,s2,s3⟩:=hSW;go_simp;try (with_reducible rfl))
       refine wpAnyL_one (i:=27) (by kernel_rfl) rfl (fun K hK=>?_);go_simp;refine ham.mono ?_;rintro e w5 ⟨rfl,b5⟩;have S5:=S4.below b5;have HS5:=HST.out _ S5;clear ham b5;go_wp2_with fail
       refine hK.out _ _ HS5 (fun hHeld=>?_);clear hK K;refine wpAnyL_take (i:=28) (v:=?_) rfl (by kernel_rfl) (by kernel_rfl) (by kernel_rfl) (by kernel_rfl) (fun _ _ _ h=>h) (Or.inl ⟨by kernel_rfl,?_⟩) (by assumption) ?_;rotate_left 1
       ·(intro W hSW;obtain⟨s1,s2,s3⟩:=hSW;go_simp;try (with_reducible rfl))
       refine wpAnyL_take (i:=29) (v:=?_) rfl (by kernel_rfl) (by kernel_rfl) (by kernel_rfl) (by kernel_rfl) (fun _ _ _ h=>h) (Or.inl ⟨by kernel_rfl,?_⟩) (by assumption) ?_;rotate_left 1
       ·(intro W hSW;obtain⟨s1,s2,s3⟩:=hSW;go_simp;try (with_reducible rfl))
       refine wpAnyL_take (i:=30) (v:=?_) rfl (by kernel_rfl) (by kernel_rfl) (by kernel_rfl) (by kernel_rfl) (fun _ _ _ h=>h) (Or.inl ⟨by kernel_rfl,?_⟩) (by assumption) ?_;rotate_left 1
       ·(intro W hSW;obtain⟨s1,s2,s3⟩:=hSW;go_simp;try (with_reducible rfl))
       refine wpAnyL_done (by kernel_rfl) ?_;clear hHeld HS4 HS5
       try go_simp
       go_wp2;go_roundw
       case rel=>exact⟨j+1,hlt,by go_num,S5⟩
       case measure=>simp [intOf];omega
    ·have i2:¬(j:Int)<(L:Int):=by omega
     clear HSM HCM HAN;go_wp2_with fail
     go_loopw [14] (fun iv wr=>∃ j:Nat,j<=ps.length∧iv=.int .i64 j∧NqS w zb nb g cp L o clo cut (.slice va ps.length vc) (.slice ya ty.length yc) kd ps N B3 wr) (fun iv _=>ps.length-(intOf iv).toNat)
     case atStart=>exact⟨0,Nat.zero_le _,rfl,S⟩
     case round=>
      clear S;obtain⟨j,hj,rfl,S⟩:=hrel;have rz:=fun i=>blk_cell S.k i
      have hpl:=HPL.out
      by_cases hlt:j<ps.length
      ·obtain⟨q,hq⟩:∃ q,ps[j]? =some q:=⟨_,List.getElem?_eq_getElem hlt⟩;obtain⟨⟨_,a9,c9,e9,_,_,hc9⟩,hd9⟩:=S.z;simp only [Value.slice.injEq] at e9;obtain⟨rfl,_,rfl⟩:=e9;obtain⟨b,off,rfl,hcell⟩:=hc9 (by omega);obtain⟨d0,-,-,-⟩:=zp_cells hcell hq;have hqm:=List.mem_of_getElem? hq;have ham:=HAM.out q.1.own (by have:=HPS.out q hqm;unfold maxLen;omega) _ S;rw [HF.out.own q hqm] at ham;have n1:(0:Int)<=(j:Int):=by omega
       have n2:(j:Int)<(ps.length:Int):=by omega
       clear hc9 hd9 hcell hq hqm;go_wp2_with fail
       refine ham.mono ?_;rintro e w2 ⟨rfl,b2⟩;have S2:=S.below b2;clear ham b2 d0 rz S;go_wp2;go_roundw
       case rel=>exact⟨j+1,hlt,by go_num,S2⟩
       case measure=>simp [intOf];omega
      ·have n2:¬(j:Int)<(ps.length:Int):=by omega
       have hun:=HUN.out wr
       cases hu:isUnderS name o with
       |false=>
        rw [hu] at hun;have hk0:=HF.out.out hu;subst hk0;clear hu HUN;go_wp2_with fail
        refine hun.mono ?_;rintro e w2 ⟨rfl,b2⟩;have S2:=S.below b2;have cn:=fun i=>blk_cell S2.n i
        clear hun b2 rz S;go_wp2;go_ret
        exact⟨rfl,S2.b⟩
       |true=>
        rw [hu] at hun;obtain⟨f1,f2,f3,f4,f5,f6,f7⟩:=HF.out.nm hu;have HAN:=Nm.hide f1;have HAC:=Nm.hide f2;have HUC:=Nm.hide (fun W=>specIsUnder_any name clo W (by unfold maxLen;omega) (by unfold maxLen;omega));have HSC:=Nm.hide (fun W=>specSameName_any clo name W (by unfold maxLen;omega) (by unfold maxLen;omega));have HUT:=Nm.hide f3;have HST:=Nm.hide f4;have hcz:clo.size<=maxLen:=by unfold maxLen;omega
        have hnz:name.size<=maxLen:=by unfold maxLen;omega
        clear f1 f2 f3 f4 f5 hu HF HUN;go_wp2_with fail
        refine hun.mono ?_;rintro e w9 ⟨rfl,b9⟩;have S9:=S.below b9
        have HNE:Hid (cut≠⟨#[]⟩->cut.toList.isEmpty=false):=fun hc=>by
         cases h0:cut.toList with
         |cons x xs=>rfl
         |nil=>
          have h1:(cut.toList==(⟨#[]⟩:ByteArray).toList)=true:=by rw [h0];simp [ByteArray.toList_eq]
          rw [ba_eq] at h1;exact absurd (of_decide_eq_true h1) hc
        have hfin:(T=true∧cut=⟨#[]⟩∧(kd=3∨kd=2))∨(T=false∧cut=⟨#[]⟩∧kd=1)∨(cut≠⟨#[]⟩∧(kd=4∨kd=5)):=by
         by_cases hc:cut=⟨#[]⟩
         ·cases T with
          |true=>exact .inl ⟨rfl,hc,(f7 hc).1 rfl⟩
          |false=>exact .inr (.inl ⟨rfl,hc,(f7 hc).2 rfl⟩)
         ·exact .inr (.inr ⟨hc,f6 hc⟩)
        clear hun b9 rz S f6 f7
        rcases hfin with⟨rfl,rfl,rfl|rfl⟩|⟨rfl,rfl,rfl⟩|⟨hc,rfl|rfl⟩
        all_goals
         try have hne:=HNE.out hc
         try clear hc
         clear HNE;have ham:=HAM.out name hnz _ S9;rw [HAN.out] at ham;have hcl:=HAM.out clo hcz;have cn:=fun i=>blk_cell S9.n i
         go_wp2_with fail
         refine ham.mono ?_;rintro e wA ⟨rfl,bA⟩;have SA:=S9.below bA;have ham2:=hcl wA SA;rw [HAC.out] at ham2;have cA:=fun i=>blk_cell SA.n i
         clear ham hcl cn bA S9;go_wp2_with fail
         refine ham2.mono ?_;rintro e wB ⟨rfl,bB⟩;have SB:=SA.below bB;have hu2:=HUC.out wB;rw [HUT.out] at hu2;have cB:=fun i=>blk_cell SB.n i
         clear ham2 cA bB SA;go_wp2_with fail
         refine hu2.mono ?_;rintro e wC ⟨rfl,bC⟩;have SC:=SB.below bC;have hs2:=HSC.out wC;rw [HST.out] at hs2;have cC:=fun i=>blk_cell SC.n i
         clear hu2 cB bC SB;go_wp2_with fail
         refine hs2.mono ?_;rintro e wD ⟨rfl,bD⟩;have SD:=SC.below bD;have cD:=fun i=>blk_cell SD.n i
         clear hs2 cC bD SC;go_wp2;go_ret;exact⟨rfl,SD.b⟩
end Go.Proofs.YtahpiciofdfipaaGreat
