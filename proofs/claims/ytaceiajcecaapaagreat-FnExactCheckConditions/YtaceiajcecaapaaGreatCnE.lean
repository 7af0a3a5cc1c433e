import Derived.Test.YtaceiajcecaapaaGreatJCzX
import Derived.Test.YtaceiajcecaapaaGreatCnD
import Derived.Test.YtaceiajcecaapaaGreatJCRow
import Derived.BigQuiet
namespace Go.Proofs.YtaceiajcecaapaaGreat
open Go.RowKit
set_option linter.unusedVariables false
theorem infoStrE:(Tryz.prog.info? 9).map (fun i=>(i.zero,i.size,i.bytes))=some (some (.string ByteArray.empty),1,16):=by kernel_rfl
def exR(t:Int)(D DA:List ByteArray):Bool:=decide (D.length=DA.length)&&D.all (okD t DA)
set_option maxRecDepth 100000 in
set_option maxHeartbeats 12800000 in
theorem l10Exact_any(o name:ByteArray)(t:Int)(v u:Value)(ps:List Zp)(xs:List Rr)(w:World)(h:ZRow w v ps)(hl:ps.length<=1048576)(hf:∀ p∈ps,p.1.own.size<=1048576∧p.1.da.length<=1048576)(hr:CRow w u xs.length 5 (rvVs xs))(hxl:xs.length<=400)(hx:∀ r∈xs,r.own.size<=1048576)(hn:name.size<=1048576):
 Calls Tryz.prog 31 #[.agg #[.string o,v],u,.string name,.int .i64 t] w fun e w'=>e=.returned (.bool (exM (ps.map (·.1)) xs name t))∧Below w.heap.size w w':=by
 obtain⟨va,vc,rfl⟩:∃ va vc,v=.slice va ps.length vc:=by obtain⟨⟨_,a,c,e,_⟩,_⟩:=h;exact⟨a,c,e⟩
 obtain⟨_,a,cap,rfl,hcap,hmx,hc⟩:=hr;unfold maxLen at hmx;obtain⟨i0,hi,hz0,hz1,hz2⟩:=info_parts infoStrE;obtain⟨R,HR⟩:∃ R,Hid (R=exM (ps.map (·.1)) xs name t):=⟨_,rfl⟩;rw [<- HR.out];have b0:=(Below.refl w.heap.size w).alloc (Nat.le_refl _) (.cells #[.string o,.slice va ps.length vc] 32);have k0:=blk_new w #[.string o,.slice va ps.length vc] 32;have r0:=fun i=>blk_cell k0 i
 have hfi:=l06Find_any o name t (.slice va ps.length vc) ps _ (h.below b0) hl hf (by unfold maxLen;omega);have HSM:=Nm.hide (fun(x:Rr) (hx:x.own.size<=1048576) W=>specSameName_any x.own name W (by unfold maxLen;omega) (by unfold maxLen;omega));have HFD:=Nm.hide (fun(d:ByteArray) W=>specFoldData_any t d W);have HX:=Nm.hide hx;clear h hf hl hx;go_enter Tryz.func31,Tryz.ntmps31;go_wp2_with fail
 refine hfi.mono ?_;rintro e w1 ⟨fv,rfl,of,b2⟩;obtain⟨fa,fc,rfl⟩:=own_sl of;have bw1:=Nm.below_two b0 b2;have HRZ:∃ Z:Sz,(fndZ (ps.map (·.1)) name t).getD sz0=Z:=⟨_,rfl⟩
 have HR2:∀ Z:Sz,(fndZ (ps.map (·.1)) name t).getD sz0=Z->R=exR t (ddp (wnt xs name t)) Z.da:=by
  rintro Z rfl;exact HR.out
 obtain⟨Z,hZ⟩:=HRZ;have HR3:=Nm.hide (HR2 Z hZ);rw [hZ] at of ⊢;generalize (fndZ (ps.map (·.1)) name t).isSome=FB at*;clear HR HR2 hfi k0 r0 hZ b0 b2;obtain⟨zo,zt,zz,DA⟩:=Z;simp only at of HR3
 simp only
 have bS:=(Below.refl w1.heap.size w1).alloc (Nat.le_refl _) (.cells #[.string zo,.int .i64 zt,.int .i64 zz,.slice fa DA.length fc] 65);have kS:=blk_new w1 #[.string zo,.int .i64 zt,.int .i64 zz,.slice fa DA.length fc] 65;have HSF:=Nm.hide (Nm.SRow.of_owns (own_below of bS));have hDA:DA.length<=9223372036854775807:=by obtain⟨a,c,e,h1,h2,_⟩:=HSF.out;simp only [Value.slice.injEq] at e;unfold maxLen at h2;omega
 have bw2:=Nm.below_two bw1 bS;have hsz:(w1.alloc (.cells #[.string zo,.int .i64 zt,.int .i64 zz,.slice fa DA.length fc] 65)).heap.size=w1.heap.size+1:=by simp
 obtain⟨WS,HWS⟩:∃ WS,Hid (WS=w1.alloc (.cells #[.string zo,.int .i64 zt,.int .i64 zz,.slice fa DA.length fc] 65)):=⟨_,rfl⟩;rw [<- HWS.out] at kS HSF bw2 hsz;have o0:=World.ownsRow_lit (base:=w1.heap.size+1) (e:=9) (size:=1) (w1.alloc (.cells #[.string zo,.int .i64 zt,.int .i64 zz,.slice fa DA.length fc] 65)) #[] 0 (by simp) (by decide) rfl;rw [World.size_alloc] at o0
 have bE:Below (w1.heap.size+1) WS ((w1.alloc (.cells #[.string zo,.int .i64 zt,.int .i64 zz,.slice fa DA.length fc] 65)).alloc (.cells #[] 9)):=by
  rw [HWS.out];exact(Below.refl _ _).alloc (by simp) _
 have HUP:Hid (∀ W,Below (w1.heap.size+1) WS W->Below w.heap.size w W∧Blk W w1.heap.size #[.string zo,.int .i64 zt,.int .i64 zz,.slice fa DA.length fc] 65∧Nm.SRow W (.slice fa DA.length fc) DA∧w1.heap.size+1<=W.heap.size):=by
  intro W hW;rw [<- hsz] at hW;exact⟨Nm.below_two bw2 hW,blk_below kS hW,HSF.out.below hW,by have:=hW.size;omega⟩
 clear bS of bw1 kS bw2 HSF hsz;go_wp2;generalize hgg:w1.heap.size=g at*;have HGG:=Nm.hide hgg;clear hgg
 go_loopw [11,12] (fun uv i wr=>∃ (k m:Nat) (D:List ByteArray),k<=xs.length∧i=.int .i64 k∧m<=k∧Hid (D.length=m)∧Hid (D=ddp (wnt (xs.take k) name t))∧wr.ownsRow (g+1) 9 1 uv m (D.map Value.string)∧Below (g+1) WS wr) (fun _ i _=>xs.length-(intOf i).toNat)
 case atStart=>exact⟨0,0,[],Nat.zero_le _,rfl,Nat.le_refl _,rfl,rfl,o0,bE⟩
 case round=>
  clear o0 bE;obtain⟨k,m,D,hk,rfl,hm,HL,HT,hown,hb⟩:=hrel;have hgw:=(HUP.out _ hb).2.2.2;obtain⟨oa,oc,rfl⟩:=own_sl hown
  by_cases hlt:k<xs.length
  ·obtain⟨x,hxk⟩:∃ x,xs[k]? =some x:=⟨_,List.getElem?_eq_getElem hlt⟩;obtain⟨b,off,rfl,hcell⟩:=hc (by omega);obtain⟨c0,c1,c2,c3,c4⟩:=rv_cells hcell hxk;have hbw:=(HUP.out _ hb).1;have put:∀ {O:Nat} {z:Value},w.cell? ⟨b,O,none⟩=some z->wr.cell? ⟨b,O,none⟩=some z:=fun h=>(hbw.cell (World.block_lt_of_cell? w _ h)).trans h
   replace c0:=put c0
   replace c1:=put c1
   replace c2:=put c2
   replace c4:=put c4
   have hsm:=HSM.out x (HX.out x (List.mem_of_getElem? hxk)) wr
   have HNX:Hid (ddp (wnt (xs.take (k+1)) name t)=if wtB name t x=true then adL D (foldR t x.da) else D):=by
    show _=_
    rw [wnt_next hxk];split
    ·rw [ddp_step,<- HT.out]
    ·rw [List.append_nil,HT.out]
   have HWT:Hid (wtB name t x=(decide (x.cl=1)&&decide (x.ty=t)&&sameS x.own name)):=rfl;have i1:(0:Int)<=(k:Int):=by omega
   have i2:(k:Int)<(xs.length:Int):=by omega
   clear c3 hcell hxk hbw put hc HT;obtain⟨ow,ty,cl,tt,da⟩:=x;simp only at c0 c1 c2 c4 hsm HNX HWT
   generalize hwb:wtB name t ⟨ow,ty,cl,tt,da⟩=WB at*;clear hwb
   by_cases e1:cl=1
   ·subst e1
    by_cases e2:ty=t
    ·have n2:(ty==t)=true:=by simp [e2]
     cases hsb:sameS ow name with
     |false=>
      have HD:Hid (D=ddp (wnt (xs.take (k+1)) name t)):=by
       show _=_
       rw [HNX.out,HWT.out,hsb];simp
      rw [hsb] at hsm;clear hsb HNX HWT c4 e2;go_wp2_with fail
      refine hsm.mono ?_;rintro e w2 ⟨rfl,b3⟩;have hb3:=hb.trans (b3.mono hgw);have hown3:=own_below hown b3;clear hb hown b3 hsm c0 c1 c2;go_wp2;go_roundw
      case rel=>exact⟨k+1,m,D,hlt,by go_num,by omega,HL,HD,hown3,hb3⟩
      case measure=>simp [intOf];omega
     |true=>
      have HNY:Hid (ddp (wnt (xs.take (k+1)) name t)=adL D (foldR t da)):=by
       show _=_
       rw [HNX.out,HWT.out,hsb];simp [e2]
      rw [hsb] at hsm;clear hsb HNX HWT e2;go_wp2_with fail
      refine hsm.mono ?_;rintro e w2 ⟨rfl,b3⟩;have d4:=(b3.cell (World.block_lt_of_cell? wr _ c4)).trans c4;have hb3:=hb.trans (b3.mono hgw);have hown3:=own_below hown b3;have hgw3:=(HUP.out _ hb3).2.2.2;have hfd:=HFD.out da w2;generalize foldR t da=d at*;clear hb hown b3 hsm c0 c1 c2 c4 hgw;go_wp2_with fail
      refine hfd.mono ?_;rintro e w3 ⟨rfl,b4⟩;have hb4:=hb3.trans (b4.mono hgw3);have hown4:=own_below hown3 b4;have hgw4:=(HUP.out _ hb4).2.2.2;have HS4:=Nm.hide (Nm.SRow.of_owns (ls:=D) (by rw [HL.out];exact hown4));clear hb3 hown3 b4 hfd d4 hgw3;go_wp2
      go_loop [14,15] (fun tv kv=>∃ j:Nat,j<=m∧kv=.int .i64 j∧tv=.bool ((D.take j).any (fun y=>y.toList==d.toList))) (fun _ i=>m-(intOf i).toNat)
      case atStart=>exact⟨0,Nat.zero_le _,rfl,rfl⟩
      case round=>
       obtain⟨j,hj,rfl,rfl⟩:=hrel
       by_cases hjl:j<m
       ·obtain⟨y,hy⟩:∃ y,D[j]? =some y:=⟨_,List.getElem?_eq_getElem (by have:=HL.out;omega)⟩;obtain⟨_,_,ee,_,_,_,hdc⟩:=HS4.out;simp only [Value.slice.injEq] at ee;obtain⟨rfl,-,rfl⟩:=ee;obtain⟨b',off',rfl,hcell'⟩:=hdc (List.ne_nil_of_mem (List.mem_of_getElem? hy));have f0:=hcell' j y hy;have HAN:Hid ((D.take (j+1)).any (fun y=>y.toList==d.toList)=((D.take j).any (fun y=>y.toList==d.toList)||(y.toList==d.toList))):=anyB_next hy;have j1:(0:Int)<=(j:Int):=by omega
        have j2:(j:Int)<(m:Int):=by omega
        clear hdc hcell' hy;generalize (D.take j).any (fun y=>y.toList==d.toList)=A at*
        cases A with
        |true=>
         have HA2:Hid (true=(D.take (j+1)).any (fun y=>y.toList==d.toList)):=by show _=_;rw [HAN.out];rfl
         clear HAN;go_wp2
         go_round
         case rel=>exact⟨j+1,by omega,by go_num,by rw [<- HA2.out]⟩
         case measure=>simp [intOf];omega
        |false=>
         have HA2:Hid ((y.toList==d.toList)=(D.take (j+1)).any (fun y=>y.toList==d.toList)):=by show _=_;rw [HAN.out];rfl
         clear HAN;obtain⟨E,hE⟩:∃ E,(y.toList==d.toList)=E:=⟨_,rfl⟩;have HA3:Hid (E=(D.take (j+1)).any (fun y=>y.toList==d.toList)):=by show _=_;rw [<- hE];exact HA2.out
         clear HA2;go_wp2
         go_round
         case rel=>exact⟨j+1,by omega,by go_num,by rw [HA3.out]⟩
         case measure=>simp [intOf];omega
       ·obtain rfl:j=m:=by omega
        have HIN:Hid ((D.take j).any (fun y=>y.toList==d.toList)=inL D d):=by show _=_;rw [<- HL.out,List.take_length,inL]
        have j2:¬(j:Int)<(j:Int):=by omega
        generalize (D.take j).any (fun y=>y.toList==d.toList)=A at*;clear HS4
        cases A with
        |true=>
         have HD:Hid (D=ddp (wnt (xs.take (k+1)) name t)):=by show _=_;rw [HNY.out,adL,if_pos HIN.out.symm]
         clear HIN HNY;go_wp2;go_roundw
         case rel=>exact⟨k+1,j,D,hlt,by go_num,by omega,HL,HD,hown4,hb4⟩
         case measure=>simp [intOf];omega
        |false=>
         have HD:Hid (D++[d]=ddp (wnt (xs.take (k+1)) name t)):=by show _=_;rw [HNY.out,adL,if_neg (by rw [<- HIN.out];decide)]
         have HL2:Hid ((D++[d]).length=j+1):=by show _=_;rw [List.length_append,HL.out];rfl
         have HMP:Hid (D.map Value.string++[.string d]=(D++[d]).map Value.string):=by show _=_;simp
         clear HIN HNY;go_wp2_with (at_builtin;refine wpList_append_own _ rfl (.tmp 81) (.tmp 83) 56 rfl (g+1) 9 i0 (.string ByteArray.empty) 1 16 Tryz.underlying56 hi hz0 hz1 hz2 rfl (by decide) _ _ _ rfl (hown4.alloc _) ⟨w3.heap.size,0,none⟩ 1 1 [.string d] rfl rfl (cell_new1 _ _ _) (Nm.one_cell _ rfl) (by unfold maxLen;omega) (by omega) (by simp;omega) ?_)
         intro v' w6 hown6 hgrow _;rw [HMP.out] at hown6;have hb6:=typ_bel hgw4 hown4 hb4 _ hgrow;clear hgrow hown4 hb4;go_wp2;go_roundw
         case rel=>exact⟨k+1,j+1,_,hlt,by go_num,by omega,HL2,HD,hown6,hb6⟩
         case measure=>simp [intOf];omega
    ·have n2:(ty==t)=false:=by simpa using e2
     have HD:Hid (D=ddp (wnt (xs.take (k+1)) name t)):=by
      show _=_
      rw [HNX.out,HWT.out,if_neg];simp [e2]
     clear HNX HWT c4 c0 hsm e2;go_wp2;go_roundw
     case rel=>exact⟨k+1,m,D,hlt,by go_num,by omega,HL,HD,hown,hb⟩
     case measure=>simp [intOf];omega
   ·have n1:(cl==1)=false:=by simpa using e1
    have HD:Hid (D=ddp (wnt (xs.take (k+1)) name t)):=by
     show _=_
     rw [HNX.out,HWT.out,if_neg];simp [e1]
    clear HNX HWT c4 c0 c1 hsm e1;go_wp2;go_roundw
    case rel=>exact⟨k+1,m,D,hlt,by go_num,by omega,HL,HD,hown,hb⟩
    case measure=>simp [intOf];omega
  ·have hkl:k=xs.length:=by omega
   subst hkl;have i2:¬(xs.length:Int)<(xs.length:Int):=by omega
   have HN:Hid (R=exR t D DA):=by show _=_;rw [HR3.out,HT.out,List.take_length]
   have kS:=(HUP.out _ hb).2.1;have rS:=fun i=>blk_cell kS i
   have HSD:=Nm.hide (Nm.SRow.of_owns (ls:=D) (by rw [HL.out];exact hown));clear HT HR3 HSM HX hc
   by_cases hln:m=DA.length
   ·have HN2:Hid (R=D.all (okD t DA)):=by
     show _=_
     rw [HN.out,exR,HL.out,hln];simp
    have n3:((m:Int) != (DA.length:Int))=false:=by rw [hln];simp
    have HLN:=Nm.hide hln;have HUW:Hid (∀ X,Below wr.heap.size wr X->Below (g+1) WS X):=fun X hX=>hb.trans (hX.mono hgw)
    obtain⟨wo,hwo⟩:∃ wo,wo=wr:=⟨wr,rfl⟩;subst hwo;clear HN hln hown hb hgw kS;go_wp2
    go_loopw [16] (fun iv wq=>∃ i:Nat,i<=m∧iv=.int .i64 i∧Hid ((D.take i).all (okD t DA)=true)∧Below wo.heap.size wo wq) (fun iv _=>m-(intOf iv).toNat)
    case atStart=>exact⟨0,Nat.zero_le _,rfl,rfl,Below.refl _ _⟩
    case round=>
     clear rS;obtain⟨i,him,rfl,HA,hbq⟩:=hrel;obtain⟨wp,hwp⟩:∃ wp,wp=wr:=⟨wr,rfl⟩;subst hwp
     by_cases hil:i<m
     ·obtain⟨x,hx⟩:∃ x,D[i]? =some x:=⟨_,List.getElem?_eq_getElem (by have:=HL.out;omega)⟩
      have HN3:Hid (okD t DA x=true->(D.take (i+1)).all (okD t DA)=true):=by
       intro h;obtain⟨h1,h2⟩:=List.getElem?_eq_some_iff.1 hx;rw [List.take_succ_eq_append_getElem h1,h2,List.all_append,HA.out];simp [h]
      have HN4:Hid (okD t DA x=false->R=false):=by
       intro h;rw [HN2.out]
       cases hh:D.all (okD t DA) with
       |false=>rfl
       |true=>
        have:=List.all_eq_true.1 hh x (List.mem_of_getElem? hx);rw [h] at this;cases this
      have HOK:Hid (okD t DA x=DA.any (fun y=>(foldR t y).toList==x.toList)):=rfl;obtain⟨_,_,ee,_,_,_,hdc⟩:=HSD.out;simp only [Value.slice.injEq] at ee;obtain⟨rfl,-,rfl⟩:=ee;obtain⟨bw,ow,rfl,hcw⟩:=hdc (List.ne_nil_of_mem (List.mem_of_getElem? hx));have HCW:=Nm.hide (hcw i x hx);have i1:(0:Int)<=(i:Int):=by omega
      have i2:(i:Int)<(m:Int):=by omega
      clear hdc hcw hx HA;go_wp2
      go_loopw [17,18] (fun tv kv wq=>∃ j:Nat,j<=DA.length∧kv=.int .i64 j∧tv=.bool ((DA.take j).any (fun y=>(foldR t y).toList==x.toList))∧Below wo.heap.size wo wq) (fun _ kv _=>DA.length-(intOf kv).toNat)
      case atStart=>exact⟨0,Nat.zero_le _,rfl,rfl,hbq⟩
      case round=>
       clear hbq;obtain⟨j,hj,rfl,rfl,hbr⟩:=hrel;have hup:=HUP.out _ (HUW.out _ hbr);have rS:=fun i=>blk_cell hup.2.1 i
       by_cases hjl:j<DA.length
       ·obtain⟨y,hy⟩:∃ y,DA[j]? =some y:=⟨_,List.getElem?_eq_getElem hjl⟩;have HAN:Hid ((DA.take (j+1)).any (fun y=>(foldR t y).toList==x.toList)=((DA.take j).any (fun y=>(foldR t y).toList==x.toList)||((foldR t y).toList==x.toList))):=anyB_next hy;obtain⟨_,_,ee,_,_,_,hdc⟩:=hup.2.2.1;simp only [Value.slice.injEq] at ee;obtain⟨rfl,-,rfl⟩:=ee;obtain⟨bd,od,rfl,hcd⟩:=hdc (List.ne_nil_of_mem (List.mem_of_getElem? hy))
        have kC:Hid (∀ X,Below wr.heap.size wr X->X.cell? ⟨g,3,none⟩=some (.slice (some ⟨bd,od,none⟩) DA.length fc)∧X.cell? ⟨bd,od+j,none⟩=some (.string y)∧X.cell? ⟨bw,ow+i,none⟩=some (.string x)):=by
         intro X hX;have hwX:=Nm.below_two hbr hX;exact⟨(blk_cell (blk_below hup.2.1 hX) 3).trans rfl,(hX.cell (World.block_lt_of_cell? wr _ (hcd j y hy))).trans (hcd j y hy),(hwX.cell (World.block_lt_of_cell? wo _ HCW.out)).trans HCW.out⟩
        have j1:(0:Int)<=(j:Int):=by omega
        have j2:(j:Int)<(DA.length:Int):=by omega
        have hfd:=HFD.out y;clear hdc hcd hy hup;generalize foldR t y=d at*;generalize (DA.take j).any (fun y=>(foldR t y).toList==x.toList)=A at*
        cases A with
        |true=>
         have HA2:Hid (true=(DA.take (j+1)).any (fun y=>(foldR t y).toList==x.toList)):=by show _=_;rw [HAN.out];rfl
         clear HAN hfd;go_wp2;go_quiet (fail)
         go_wp2;go_roundw
         case rel=>exact⟨j+1,by omega,by go_num,by rw [<- HA2.out],Go.below_drewN hbr _⟩
         case measure=>simp [intOf];omega
        |false=>
         obtain⟨E,hE⟩:∃ E,(d.toList==x.toList)=E:=⟨_,rfl⟩;have HA3:Hid (E=(DA.take (j+1)).any (fun y=>(foldR t y).toList==x.toList)):=by show _=_;rw [HAN.out,hE];rfl
         clear HAN;go_wp2_with fail
         refine wp_region_last (fun X=>X.cell? ⟨g,3,none⟩=some (.slice (some ⟨bd,od,none⟩) DA.length fc)∧X.cell? ⟨bd,od+j,none⟩=some (.string y)∧X.cell? ⟨bw,ow+i,none⟩=some (.string x)) 1000 (by kernel_rfl) (kC.out _ (Below.refl _ wr).drew) (fun hHeld=>?_);refine wpAnyL_take (i:=0) (v:=?_) rfl (by kernel_rfl) (by kernel_rfl) (by kernel_rfl) (by kernel_rfl) (fun _ _ _ h=>h) (Or.inl ⟨by kernel_rfl,?_⟩) (by assumption) ?_;rotate_left 1
         ·(intro W hSW;obtain⟨s1,s2,s3⟩:=hSW;go_simp;try (with_reducible rfl))
         refine wpAnyL_take (i:=1) (v:=?_) rfl (by kernel_rfl) (by kernel_rfl) (by kernel_rfl) (by kernel_rfl) (fun _ _ _ h=>h) (Or.inl ⟨by kernel_rfl,?_⟩) (by assumption) ?_;rotate_left 1
         ·(intro W hSW;obtain⟨s1,s2,s3⟩:=hSW;go_simp;try (with_reducible rfl))
         refine wpAnyL_take (i:=2) (v:=?_) rfl (by kernel_rfl) (by kernel_rfl) (by kernel_rfl) (by kernel_rfl) (fun _ _ _ h=>h) (Or.inl ⟨by kernel_rfl,?_⟩) (by assumption) ?_;rotate_left 1
         ·(intro W hSW;obtain⟨s1,s2,s3⟩:=hSW;go_simp;try (with_reducible rfl))
         refine wpAnyL_take (i:=3) (v:=?_) rfl (by kernel_rfl) (by kernel_rfl) (by kernel_rfl) (by kernel_rfl) (fun _ _ _ h=>h) (Or.inl ⟨by kernel_rfl,?_⟩) (by assumption) ?_;rotate_left 1
         ·(intro W hSW;obtain⟨s1,s2,s3⟩:=hSW;go_simp;try (with_reducible rfl))
         refine wpAnyL_take (i:=4) (v:=?_) rfl (by kernel_rfl) (by kernel_rfl) (by kernel_rfl) (by kernel_rfl) (fun _ _ _ h=>h) (Or.inl ⟨by kernel_rfl,?_⟩) (by assumption) ?_;rotate_left 1
         ·(intro W hSW;obtain⟨s1,s2,s3⟩:=hSW;go_simp;try (with_reducible rfl))
         refine wpAnyL_take (i:=5) (v:=?_) rfl (by kernel_rfl) (by kernel_rfl) (by kernel_rfl) (by kernel_rfl) (fun _ _ _ h=>h) (Or.inl ⟨by kernel_rfl,?_⟩) (by assumption) ?_;rotate_left 1
         ·(intro W hSW;obtain⟨s1,s2,s3⟩:=hSW;go_simp;try (with_reducible rfl))
         refine wpAnyL_take (i:=6) (v:=?_) rfl (by kernel_rfl) (by kernel_rfl) (by kernel_rfl) (by kernel_rfl) (fun _ _ _ h=>h) (Or.inl ⟨by kernel_rfl,?_⟩) (by assumption) ?_;rotate_left 1
         ·(intro W hSW;obtain⟨s1,s2,s3⟩:=hSW;go_simp;try (with_reducible rfl))
         refine wpAnyL_take (i:=7) (v:=?_) rfl (by kernel_rfl) (by kernel_rfl) (by kernel_rfl) (by kernel_rfl) (fun _ _ _ h=>h) (Or.inl ⟨by kernel_rfl,?_⟩) (by assumption) ?_;rotate_left 1
         ·(intro W hSW;obtain⟨s1,s2,s3⟩:=hSW;go_simp;try (with_reducible rfl))
         refine wpAnyL_take (i:=9) (v:=?_) rfl (by kernel_rfl) (by kernel_rfl) (by kernel_rfl) (by kernel_rfl) (fun _ _ _ h=>h) (Or.inl ⟨by kernel_rfl,?_⟩) (by assumption) ?_;rotate_left 1
         ·(intro W hSW;obtain⟨s1,s2,s3⟩:=hSW;go_simp;try (with_reducible rfl))
         refine wpAnyL_take (i:=10) (v:=?_) rfl (by kernel_rfl) (by kernel_rfl) (by kernel_rfl) (by kernel_rfl) (fun _ _ _ h=>h) (Or.inl ⟨by kernel_rfl,?_⟩) (by assumption) ?_;rotate_left 1
         ·(intro W hSW;obtain⟨s1,s2,s3⟩:=hSW;go_simp;try (with_reducible rfl))
         refine wpAnyL_take (i:=11) (v:=?_) rfl (by kernel_rfl) (by kernel_rfl) (by kernel_rfl) (by kernel_rfl) (fun _ _ _ h=>h) (Or.inl ⟨by kernel_rfl,?_⟩) (by assumption) ?_;rotate_left 1
         ·(intro W hSW;obtain⟨s1,s2,s3⟩:=hSW;go_simp;try (with_reducible rfl))
         refine wpAnyL_take (i:=12) (v:=?_) rfl (by kernel_rfl) (by kernel_rfl) (by kernel_rfl) (by kernel_rfl) (fun _ _ _ h=>h) (Or.inl ⟨by kernel_rfl,?_⟩) (by assumption) ?_;rotate_left 1
         ·(intro W hSW;obtain⟨s1,s2,s3⟩:=hSW;go_simp;try (with_reducible rfl))
         refine wpAnyL_one (i:=8) (by kernel_rfl) rfl (fun K hK=>?_);go_simp;refine(hfd _).mono ?_;rintro e w5 ⟨rfl,b5⟩;have b5':=Nm.below_two (Below.refl _ wr).drew b5;go_wp2_with fail
         refine hK.out _ _ (kC.out _ b5') (fun hHeld=>?_);clear hK K;refine wpAnyL_take (i:=13) (v:=?_) rfl (by kernel_rfl) (by kernel_rfl) (by kernel_rfl) (by kernel_rfl) (fun _ _ _ h=>h) (Or.inl ⟨by kernel_rfl,?_⟩) (by assumption) ?_;rotate_left 1
         ·(intro W hSW;obtain⟨s1,s2,s3⟩:=hSW;go_simp;try (with_reducible rfl))
         refine wpAnyL_take (i:=14) (v:=?_) rfl (by kernel_rfl) (by kernel_rfl) (by kernel_rfl) (by kernel_rfl) (fun _ _ _ h=>h) (Or.inl ⟨by kernel_rfl,?_⟩) (by assumption) ?_;rotate_left 1
         ·(intro W hSW;obtain⟨s1,s2,s3⟩:=hSW;go_simp;try (with_reducible rfl))
         refine wpAnyL_take (i:=15) (v:=?_) rfl (by kernel_rfl) (by kernel_rfl) (by kernel_rfl) (by kernel_rfl) (fun _ _ _ h=>h) (Or.inl ⟨by kernel_rfl,?_⟩) (by assumption) ?_;rotate_left 1
         ·(intro W hSW;obtain⟨s1,s2,s3⟩:=hSW;go_simp;try (with_reducible rfl))
         refine wpAnyL_done (by kernel_rfl) ?_;have hbz:=Nm.below_two hbr b5';clear kC b5 b5' hfd hHeld rS;go_simp;go_wp2;go_roundw
         case rel=>
          first
           |exact⟨j+1,by omega,by go_num,congrArg Value.bool HA3.out,hbz⟩
           |(
            repeat apply Exists.intro
            exact⟨⟨j+1,by omega,by go_num,congrArg Value.bool HA3.out,hbz⟩,rfl⟩)
         case measure=>simp [intOf];omega
       ·obtain rfl:j=DA.length:=by omega
        have HIN:Hid ((DA.take DA.length).any (fun y=>(foldR t y).toList==x.toList)=okD t DA x):=by show _=_;rw [HOK.out,List.take_length]
        have j2:¬(DA.length:Int)<(DA.length:Int):=by omega
        generalize (DA.take DA.length).any (fun y=>(foldR t y).toList==x.toList)=A at*
        cases A with
        |true=>
         have HA2:=Nm.hide (HN3.out HIN.out.symm);clear HIN HN3 HN4 HOK hup;go_wp2;go_roundw
         case rel=>exact⟨i+1,by omega,by go_num,HA2,hbr⟩
         case measure=>simp [intOf];omega
        |false=>
         have HA2:=Nm.hide (HN4.out HIN.out.symm);have hbw:=hup.1;clear HIN HN3 HN4 HOK hup;go_wp2;go_ret;rw [HA2.out];exact⟨rfl,hbw⟩
     ·obtain rfl:i=m:=by omega
      have i3:¬(i:Int)<(i:Int):=by omega
      have HT:Hid (R=true):=by
       show _=_
       have h1:=HA.out;rw [<- HL.out,List.take_length] at h1;rw [HN2.out,h1]
      have hbw:=(HUP.out _ (HUW.out _ hbq)).1;clear HA HN2;go_wp2;go_ret;rw [HT.out];exact⟨rfl,hbw⟩
   ·have HN2:Hid (R=false):=by
     show _=_
     rw [HN.out,exR,HL.out,decide_eq_false hln];rfl
    have n3:((m:Int) != (DA.length:Int))=true:=by rw [bne_iff_ne];omega
    have hbw:=(HUP.out _ hb).1;clear HN hln;go_wp2;go_ret;rw [HN2.out];exact⟨rfl,hbw⟩
end Go.Proofs.YtaceiajcecaapaaGreat
