import Derived.Test.YtahpiciofdfipaaGreatJNzM
import Derived.Test.YtahpiciofdfipaaGreatJBzC
import Derived.Test.YtahpiciofdfipaaGreatJTrH
import Derived.Test.YtahpiciofdfipaaGreatJGoodM
import Derived.Test.YtahpiciofdfipaaGreatJUnderM
import Derived.RangeFuncBox
import Derived.Maps.AppendAt
import Derived.LoopIn
import Derived.Stop.RegionWithIn
import Derived.Sort.CutIn
namespace Go.Proofs.YtahpiciofdfipaaGreat
open Go.RowKit Go.Shelf
set_option linter.unusedVariables false
attribute [local go_sem] Oper.semAt_some
def joV(x:List ByteArray):Value:=.string (joB x)
def lastV(pre:List GOw):Value:=match pre.getLast? with
 |some q=>q.lv
 |none=>.slice none 0 0
theorem lastV_snoc(pre:List GOw)(q:GOw):lastV (pre++[q])=q.lv:=by simp [lastV]
theorem last_row{w:World}{al:List ByteArray}{fp:List Nat}{os:List GOw}(hLab:LabAt w fp os)(pre:List GOw)(hp:∀ q∈pre,q∈os):Nm.SRow w (lastV pre) (nmT al pre).2:=by
 rcases List.eq_nil_or_concat pre with rfl|⟨L,q,rfl⟩
 ·exact⟨none,0,rfl,Nat.le_refl _,by decide,fun _=>rfl,fun h=>absurd rfl h⟩
 ·rw [List.concat_eq_append,lastV_snoc,nmT_snoc];exact(hLab q (hp q (by simp))).row
theorem nmStep_len(last y:List ByteArray)(out:List (List ByteArray)):(nmStep last out y).length<=out.length+1:=by
 rw [nmStep]
 split<;>simp
theorem nmIn_len(last lab:List ByteArray):∀ (n:Nat) (out:List (List ByteArray)),(nmIn last lab n out).length<=out.length+n
 |0,out=>Nat.le_refl _
 |n+1,out=>by
  rw [nmIn];have h1:=nmIn_len last lab n (nmStep last out (lab.drop n));have h2:=nmStep_len last (lab.drop n) out;omega
theorem nmT_len(al:List ByteArray)(os:List GOw):(∀ q∈os,q.lab.length<=254)->(nmT al os).1.length<=255*os.length:=by
 refine snoc_ind (P:=fun os=>(∀ q∈os,q.lab.length<=254)->(nmT al os).1.length<=255*os.length) (fun _=>Nat.le_refl _) (fun l q ih h=>?_) os;have h1:=ih (fun r hr=>h r (by simp [hr]));have h2:=h q (by simp);rw [nmT_snoc,nmOne,List.length_append];have h3:=nmIn_len (nmT al l).2 q.lab (q.lab.length-al.length+1) (nmT al l).1;simp only [List.length_singleton];omega
theorem nt_keep{W w1:World}{tmp:Obj}{B e s n c b:Nat}{v y:Value}{xs:List Value}{cs:Array Value}{T:TypeId}(k:Blk W c cs T)(h:W.ownsRow B e s v n xs)(hg:(W.alloc tmp).grownBy w1 v.ownBlock)(hT:e≠T)(hb:c≠b):Blk (w1.setCell ⟨b,0,none⟩ y) c cs T:=
 blk_far (blk_grown (blk_alloc k tmp) hg (fun e'=>own_nb h k hT e')) hb
set_option maxRecDepth 100000 in
set_option maxHeartbeats 4000000 in
theorem names_in(F:Fence)(n:Nat)(h1:F.fn 23)(h2:F.fn 51)(h3:F.fn 57)(h4:F.fn 93)(h5:F.fn 53)(hro:F.round=none)(hn:9<=n)
 (bb oo th:Nat) (rv:Value) (os:List GOw) (B:Nat) (aa:Option Addr) (ac:Nat) (al:List ByteArray) (w:World) (h:TrAt w B th rv os) (hl:os.length<=400000) (hLab:LabAt w (fpT th rv os) os) (hgl:∀ q∈os,Gl q.lab∧al.length<=q.lab.length) (hc:w.cell? ⟨bb,oo+1,none⟩=some (ptr th)) (hca:w.cell? ⟨bb,oo,none⟩=some (.slice aa al.length ac))
 (hund:∀ (u v:Value) (xs ys:List ByteArray) (m:Nat) (W:World),Nm.SRow W u xs->Nm.SRow W v ys->(∀ x∈xs,x.size<=1000000000)->xs.length<=1000000000->ys.length<=1000000000->CallsIn F m Tryz.prog 51 #[u,v] W fun e w'=>e=.returned (.bool (underB xs ys))∧Below W.heap.size W w')
 (hwire:∀ (v:Value) (ys:List ByteArray) (m:Nat) (W:World),Nm.SRow W v ys->Gl ys->CallsIn F m Tryz.prog 53 #[v] W fun e w'=>e=.returned (.tuple #[.string (joB ys),.int .i64 0])∧Below W.heap.size W w'):
 CallsIn F n Tryz.prog 23 #[.pointer (some ⟨bb,oo,none⟩)] w fun e W'=>∃ v,e=.returned v∧W'.ownsRow w.heap.size 9 1 v (nmT al os).1.length ((nmT al os).1.map joV)∧Below w.heap.size w W':=by
 obtain⟨i0,hi,hz0,hz1,hz2⟩:=info_parts infoStrV;refine callsIn_of_wp_marks Tryz.func23 rfl h1 ?_ hro;simp only [Tryz.ntmps23,List.size_toArray,List.length_cons,List.length_nil,Nat.reduceAdd,Nat.reduceSub,Array.replicate_succ,Array.replicate_zero,List.push_toArray,List.append_toArray,List.nil_append,List.cons_append];have hth:th<w.heap.size:=blk_lt h.head;have n1:1<=n:=by omega
 have hbb:bb<w.heap.size:=World.block_lt_of_cell? w _ hc;unfold ptr at hc;have b0:=(Below.refl w.heap.size w).alloc (Nat.le_refl _) (.cells #[.pointer (some ⟨bb,oo,none⟩)] 54);have b1:=b0.alloc b0.size (.cells #[.slice none 0 0] 35);have b2:=b1.alloc b1.size (.cells #[.slice none 0 0] 57);have k0:=blk_alloc (blk_alloc (blk_new w #[.pointer (some ⟨bb,oo,none⟩)] 54) (.cells #[.slice none 0 0] 35)) (.cells #[.slice none 0 0] 57);have k1:=blk_alloc (blk_new (w.alloc (.cells #[.pointer (some ⟨bb,oo,none⟩)] 54)) #[.slice none 0 0] 35) (.cells #[.slice none 0 0] 57);have k2:=blk_new ((w.alloc (.cells #[.pointer (some ⟨bb,oo,none⟩)] 54)).alloc (.cells #[.slice none 0 0] 35)) #[.slice none 0 0] 57;rw [World.size_alloc] at k1;rw [World.size_alloc,World.size_alloc] at k2;have c2:=(b2.cell (p:=⟨bb,oo+1,none⟩) hbb).trans hc;have r0:=(blk_cell k0 0).trans rfl;have HX:=Nm.hide (And.intro h (And.intro hLab (And.intro hgl (And.intro hund hwire))));clear h hLab hgl hund hwire
 gi_wp2_with fail
 refine(allL_in F (n-1) h3 hro _ _).mono ?_;rintro e w3 ⟨rfl,rfl⟩
 gi_wp2
 have kO3:=blk_alloc k1 (.cells #[.pointer (some ⟨th,0,none⟩)] 92);have kL3:=blk_alloc k2 (.cells #[.pointer (some ⟨th,0,none⟩)] 92);have kP3:=blk_alloc k0 (.cells #[.pointer (some ⟨th,0,none⟩)] 92);have kT3:=blk_new (((w.alloc (.cells #[.pointer (some ⟨bb,oo,none⟩)] 54)).alloc (.cells #[.slice none 0 0] 35)).alloc (.cells #[.slice none 0 0] 57)) #[.pointer (some ⟨th,0,none⟩)] 92;rw [World.size_alloc,World.size_alloc,World.size_alloc] at kT3;have b3:=b2.alloc b2.size (.cells #[.pointer (some ⟨th,0,none⟩)] 92);obtain⟨W0,hW0⟩:∃ W0,(((w.alloc (.cells #[.pointer (some ⟨bb,oo,none⟩)] 54)).alloc (.cells #[.slice none 0 0] 35)).alloc (.cells #[.slice none 0 0] 57)).alloc (.cells #[.pointer (some ⟨th,0,none⟩)] 92)=W0:=⟨_,rfl⟩;have hsz:W0.heap.size=w.heap.size+4:=by rw [<- hW0];simp
 rw [hW0] at kO3 kL3 kP3 kT3 b3 ⊢;clear hW0 k0 k1 k2 b0 b1 b2 c2 r0;have hza:os.attach.length=os.length:=List.length_attach
 have hR0:RwsL (fun x:{o:GOw // o∈os}=>slA x.1.lv) (fun x=>slN x.1.lv) (fun x=>slC x.1.lv) (fun x=>⟨x.1.blk,0,none⟩) w.heap.size w rv os.attach:=by
  refine rwsL_own _ _ _ _ (B:=B) (e:=145) _ ?_;have hr:=HX.out.1.rows
  have e1:(os.attach.map fun x:{o:GOw // o∈os}=>((Value.slice (slA x.1.lv) (slN x.1.lv) (slC x.1.lv)),(Value.pointer (some (⟨x.1.blk,0,none⟩:Addr)))))=owRs os:=by
   rw [owRs]
   conv=>rhs;rw [<- List.attach_map_subtype_val os]
   rw [List.map_map];refine List.map_congr_left (fun x _=>?_);simp only [Function.comp,ptr];rw [<- sl_eq (HX.out.2.1 x.1 x.2).row]
  rw [e1];rw [show(owRs os).length=os.attach.length by simp [owRs]] at hr;exact hr
 have kh3:W0.cell? ⟨th,1,none⟩=some rv:=(b3.cell (p:=⟨th,1,none⟩) hth).trans ((blk_cell HX.out.1.head 1).trans rfl)
 refine wpIn_rangeFunc_ownG hro n1 (gf:=93) (lb:=#[.pointer (some ⟨w.heap.size+3,0,none⟩)]) rfl h4 (enters_of Tryz.func93 (by kernel_rfl) rfl)
  (allStopsL (fun x:{o:GOw // o∈os}=>slA x.1.lv) (fun x=>slN x.1.lv) (fun x=>slC x.1.lv) (fun x=>⟨x.1.blk,0,none⟩) F (n-1) h4 hro (by omega) (w.heap.size+3) th w.heap.size rv os.attach (by omega) W0 (by omega) hth (by omega) ((blk_cell kT3 0).trans rfl) kh3 (hR0.below b3)) belowK_t (belowK_b (by omega)) (Below.refl _ _) (fun _=>rfl)
  (fun pre W=>(∃ v,Boxed W (w.heap.size+1) 35 v∧W.ownsRow w.heap.size 9 1 v (nmT al (pre.map (·.1))).1.length ((nmT al (pre.map (·.1))).1.map joV)∧True)∧((Blk W (w.heap.size+2) #[lastV (pre.map (·.1))] 57∧Blk W w.heap.size #[.pointer (some ⟨bb,oo,none⟩)] 54)∧Below w.heap.size w W))
  (fun _ _ _=>False)
  (OwnFrom.and (Own.from (holdsRow_own w.heap.size (w.heap.size+1) 35 9 1 (fun pre:List {o:GOw // o∈os}=>(nmT al (pre.map (·.1))).1.length) (fun pre=>(nmT al (pre.map (·.1))).1.map joV) (fun pre v=>True)) _) (OwnFrom.and (OwnFrom.and (fun _ X Y row hs hg hr=>blk_grown hs hg (fun e=>blk_nonc hs (hr _ e).2 rfl)) (fun _ X Y row hs hg hr=>blk_grown hs hg (fun e=>blk_nonc hs (hr _ e).2 rfl))) (ownFrom_below (Nat.le_refl _) (by omega))))
  (fun _ _ _ _ _ hs _ _=>hs)
  ⟨⟨_,kO3,World.ownsRow_nil _ _ _ _,trivial⟩,⟨kL3,kP3⟩,b3⟩
  (fun x=>{tmps:=#[.pointer (some ⟨bb,oo,none⟩),.pointer (some ⟨w.heap.size,0,none⟩),.slice none 0 0,.pointer (some ⟨w.heap.size+1,0,none⟩),.pointer (some ⟨w.heap.size+2,0,none⟩),.slice (slA x.1.lv) (slN x.1.lv) (slC x.1.lv),undef,undef,undef,.pointer (some ⟨bb,oo,none⟩),.pointer (some ⟨bb,oo,none⟩),.pointer (some ⟨bb,oo+1,none⟩),.pointer (some ⟨th,0,none⟩),.func (.func 93) #[] #[.pointer (some ⟨w.heap.size+3,0,none⟩)],.slice (slA x.1.lv) (slN x.1.lv) (slC x.1.lv),.pointer (some ⟨x.1.blk,0,none⟩),undef,undef,undef,undef,undef,undef,undef,undef,undef,undef,undef,undef,undef,undef,undef,undef,undef,undef,undef,undef,undef,undef,undef,undef,undef,undef,undef,undef,undef,undef,undef,undef,undef,undef,undef],defers:=[]}) ?assign ?body ?done ?stop
 case assign=>
  intro l x W K hK
  gi_wp2
  exact hK
 case body=>
  rintro l pre x W ⟨⟨v,hv,hrow,-⟩,⟨kL,kP⟩,hB⟩ hlt;have n2:1<=n-1-1:=by omega
  have hrL:=(HX.out.2.1 x.1 x.2).row;obtain⟨hgl,hal⟩:=HX.out.2.2.1 x.1 x.2;have hll:x.1.lab.length<=254:=Nat.le_trans (Nm.length_le_wsum _) hgl.2;have hLR:=last_row (al:=al) HX.out.2.1 (pre.map (·.1)) (fun q hq=>by obtain⟨y,_,rfl⟩:=List.mem_map.1 hq;exact y.2)
  have hLG:Gl (nmT al (pre.map (·.1))).2:=by
   rcases List.eq_nil_or_concat (pre.map (·.1)) with e|⟨L,q,e⟩
   ·rw [e];exact⟨by simp [nmT],by simp [nmT,Nm.wsum]⟩
   ·have hq:q∈pre.map (·.1):=by rw [e];simp
    obtain⟨y,_,rfl⟩:=List.mem_map.1 hq;rw [e,List.concat_eq_append,nmT_snoc];exact(HX.out.2.2.1 y.1 y.2).1
  have hN0:(nmT al (pre.map (·.1))).1.length<=102000000:=by
   have h1:=nmT_len al (pre.map (·.1)) (fun q hq=>by
    obtain⟨y,_,rfl⟩:=List.mem_map.1 hq
    exact Nat.le_trans (Nm.length_le_wsum _) (HX.out.2.2.1 y.1 y.2).1.2)
   rw [List.length_map] at h1;omega
  have e5:nmT al ((pre++[x]).map (·.1))=nmOne al (nmT al (pre.map (·.1))) x.1.lab:=by rw [List.map_append,List.map_cons,List.map_nil,nmT_snoc]
  have e6:lastV ((pre++[x]).map (·.1))=x.1.lv:=by rw [List.map_append,List.map_cons,List.map_nil,lastV_snoc]
  rw [nmOne] at e5;have ca:=(hB.cell (p:=⟨bb,oo,none⟩) hbb).trans hca;have cP:=(blk_cell kP 0).trans rfl;have HLR:=Nm.hide (And.intro hLR hLG);have HRL:=Nm.hide hrL;obtain⟨LV,hLV⟩:∃ LV,LV=lastV (pre.map (·.1)):=⟨_,rfl⟩;obtain⟨sa,sn,sc,hLVs⟩:∃ a n c,LV=.slice a n c:=by rw [hLV];obtain⟨a,c,e,_⟩:=hLR;exact⟨a,_,c,e⟩
  rw [<- hLV] at kL HLR;rw [hLVs] at kL HLR;clear hLR hLG hLV hLVs LV;generalize nmT al (pre.map (·.1))=ST at*;obtain⟨out0,last⟩:=ST;simp only at hrow HLR hN0 e5
  obtain⟨lab,hlab⟩:∃ lab,lab=x.1.lab:=⟨_,rfl⟩;rw [<- hlab] at hgl hal hll hrL HRL e5;clear hlab;obtain⟨la,lc,hlv,hcap,hmx,hnil,hcl⟩:=hrL;rw [show slA x.1.lv=la by rw [hlv];rfl,show slN x.1.lv=lab.length by rw [hlv];rfl,show slC x.1.lv=lc by rw [hlv];rfl];rw [hlv] at HRL e6;unfold maxLen at hmx;clear hcl;obtain⟨N0,hN⟩:∃ N0,N0=lab.length-al.length+1:=⟨_,rfl⟩;rw [<- hN] at e5;have hN1:(lab.length:Int)-(al.length:Int)=(N0:Int)-1:=by omega
  have hN2:N0<=255:=by omega
  have hN3:N0<=lab.length+1:=by omega
  obtain⟨R,hR⟩:∃ R,R=nmIn last lab N0 out0:=⟨_,rfl⟩;rw [<- hR] at e5;have HE:=Nm.hide (And.intro e5 e6);have HR:=Nm.hide hR;have HN1:=Nm.hide hN1;have hsW:=hB.size;obtain⟨va,vc,rfl⟩:=own_sl hrow;clear hR hN hN1 e5 e6 hlv
  gi_wp2
  gi_loopw [6] (fun i wr=>∃ (k:Nat) (out:List (List ByteArray)) (v:Value),k<=N0∧i=.int .i64 ((k:Int)-1)∧Hid (nmIn last lab k out=R)∧out.length+k<=102000255∧Boxed wr (w.heap.size+1) 35 v∧wr.ownsRow w.heap.size 9 1 v out.length (out.map joV)∧Blk wr (w.heap.size+2) #[.slice sa sn sc] 57∧Blk wr w.heap.size #[.pointer (some ⟨bb,oo,none⟩)] 54∧KeepsOthers W wr∧Below w.heap.size W wr) (fun i _=>(intOf i+1).toNat)
  case atStart=>exact⟨N0,out0,_,Nat.le_refl _,by first|rw [HN1.out]|(rw [HN1.out];go_num),HR.out.symm,by omega,hv,hrow,kL,kP,KeepsOthers.refl _,Below.refl _ _⟩
  case round=>
   clear hv hrow kL kP ca cP;obtain⟨k,out,v,hk,rfl,HK,hol,hv,hrow,kL,kP,hKO,hBW⟩:=hrel;obtain⟨va,vc,rfl⟩:=own_sl hrow;have hBw:=hB.trans hBW;have hsr0:=HRL.out.below hBw;have hlr0:=HLR.out.1.below hBw;have hcO:=hv.cell;have hcL:=(blk_cell kL 0).trans rfl;have hfL:=blk_frozen kL 0
   cases k with
   |zero=>
    have i0:((0:Nat):Int)-1<0:=by omega
    have HF:Hid (out=R):=HK.out;clear HK hsr0 hlr0 hcO
    gi_wp2
    have k9:=blk_set kL 0 (.slice la lab.length lc);simp only [List.setIfInBounds_toArray,List.set_cons_zero] at k9;have b9:=hBW.setCell (p:=⟨w.heap.size+2,0,none⟩) (Nat.le_add_right _ _) (.slice la lab.length lc);refine⟨(hKO.trans (KeepsOthers.setCell _ _ _)).from _,b9,⟨_,blk_far hv (by omega),?_,trivial⟩,⟨?_,blk_far kP (by omega)⟩,hB.trans b9⟩
    ·rw [HE.out.1];show World.ownsRow _ _ _ _ _ R.length (R.map joV)
     rw [<- HF.out];exact own_far hrow (own_nb hrow kL (by decide))
    ·rw [HE.out.2]
     exact k9
   |succ m=>
    have e2:((m+1:Nat):Int)-1=(m:Int):=by omega
    rw [e2];have j0:(0:Int)<=(m:Int):=by omega
    have hml:m<=lab.length:=by omega
    have j1:(m:Int)<=(lab.length:Int):=by omega
    have hgy:=hgl.drop m;have HSK:Hid ((decide (0<out.length)&&underB last (lab.drop m))=true->nmIn last lab m out=R):=fun hq=>by have:=HK.out;rw [nmIn,nmStep,if_pos hq] at this;exact this
    have HAP:Hid ((decide (0<out.length)&&underB last (lab.drop m))=false->nmIn last lab m (out++[lab.drop m])=R):=fun hq=>by have:=HK.out;rw [nmIn,nmStep,if_neg (by rw [hq];decide)] at this;exact this
    clear HK e2;have hsw:w.heap.size<=wr.heap.size:=hBw.size;obtain⟨sva,hsv⟩:∃ sva,sva=(if lc=m then la else la.map (fun x=>x.add m)):=⟨_,rfl⟩
    have hsr:Nm.SRow wr (.slice sva (lab.length-m) (lc-m)) (lab.drop m):=by
     rw [hsv]
     by_cases hcm:lc=m
     ·rw [if_pos hcm,hcm,Nat.sub_self];exact hsr0.drop_all hcm
     ·rw [if_neg hcm];exact hsr0.drop hml
    have HSR:=Nm.hide hsr;clear hsr hsr0;have HSV:=Nm.hide hsv;clear hsv
    gi_wp2
    gi_cut [37] from 51 (fun v wx=>v=.bool (decide (0<out.length)&&underB last (lab.drop m))∧Below wr.heap.size wr wx)
    case first=>
     by_cases hol0:out.length=0
     ·have hout:out=[]:=List.length_eq_zero_iff.1 hol0;subst hout;simp only [List.length_nil,List.map_nil] at hrow hv hcO ⊢
      gi_region_with (fail)
      all_goals
       gi_wp2_with fail
       gi_meet
       case rel=>exact⟨by simp,(Below.refl _ _).drew⟩
     ·have p1:(0:Int)<(out.length:Int):=by omega
      have p2:decide (0<out.length)=true:=by simp;omega
      have hcall:=fun a c W (hW:Below wr.heap.size wr W) (hy:Nm.SRow wr (.slice a (lab.length-m) c) (lab.drop m))=>CallsIn.inRound l (HX.out.2.2.2.1 (.slice sa sn sc) (.slice a (lab.length-m) c) last (lab.drop m) (n-1-1-1) W (hlr0.below hW) (hy.below hW) (fun x hx=>by have:=(HLR.out.2.1 x hx).2;omega) (by have h1:=HLR.out.2.2;have h2:=Nm.length_le_wsum last;omega) (by rw [List.length_drop];omega))
      generalize underB last (lab.drop m)=UB at*
      by_cases hcm:lc=m
      ·have hsv:=HSV.out;rw [if_pos hcm] at hsv;obtain rfl:m=lab.length:=by omega
       subst hcm;subst hsv;have hcall2:=hcall _ _ _ ((Below.refl _ _).drew) HSR.out;rw [Nat.sub_self] at hcall2;clear hcall HSR hcap hml j1 hgy HSK HAP HX HLR HRL HE HR
       gi_region_with (gi_at_call 51;refine hcall2.mono ?_;rintro e w4 ⟨rfl,b4⟩)
       all_goals
        gi_wp2_with fail
        gi_meet
        case rel=>exact⟨by rw [p2];rfl,Nm.below_two (Below.refl _ _).drew b4⟩
      ·have hsv:=HSV.out;rw [if_neg hcm] at hsv
       obtain⟨ad,had⟩:∃ ad,la=some ad:=by
        cases la with
        |none=>have:=hnil rfl;omega
        |some ad=>exact⟨ad,rfl⟩
       subst had;simp only [Option.map_some] at hsv;subst hsv;have hlt2:m<lc:=by omega
       have hcall2:=hcall _ _ _ ((Below.refl _ _).drew) HSR.out
       gi_region_with (gi_at_call 51;refine hcall2.mono ?_;rintro e w4 ⟨rfl,b4⟩)
       all_goals
        gi_wp2_with fail
        gi_meet
        case rel=>exact⟨by rw [p2];rfl,Nm.below_two (Below.refl _ _).drew b4⟩
    case rest=>
     obtain⟨rfl,bC⟩:=hcut;have hvC:Boxed wc (w.heap.size+1) 35 (.slice va out.length vc):=blk_below hv bC;have hrowC:=own_below hrow bC;have kLC:=blk_below kL bC;have kPC:=blk_below kP bC;have hKOC:=hKO.trans (keeps_below bC);have hBWC:=hBW.trans (bC.mono hsw);have hswC:w.heap.size<=wc.heap.size:=Nat.le_trans hsw bC.size;have hsrC:=HSR.out.below bC;have HSRC:=Nm.hide hsrC;clear hv hrow kL kP hKO hBW hcO hcL hfL hlr0 HSR hsrC
     cases hq:(decide (0<out.length)&&underB last (lab.drop m)) with
     |true=>
      have HK2:=Nm.hide (HSK.out hq);clear hq HSK HAP
      gi_wp2
      go_roundw
      case rel=>exact⟨m,out,_,by omega,by go_num,HK2,by omega,hvC,hrowC,kLC,kPC,hKOC,hBWC⟩
      case measure=>simp [intOf]
     |false=>
      have HK2:=Nm.hide (HAP.out hq);clear hq HSK HAP;obtain⟨Y,hY⟩:∃ Y,Y=lab.drop m:=⟨_,rfl⟩;rw [<- hY] at HK2 HSRC hgy;clear hY
      by_cases hcm:lc=m
      ·have hsv:=HSV.out;rw [if_pos hcm] at hsv;obtain rfl:m=lab.length:=by omega
       subst hcm;subst hsv;rw [Nat.sub_self] at HSRC;have hwi:=CallsIn.inRound l (HX.out.2.2.2.2 _ Y (n-1-1-1) wc HSRC.out hgy)
       gi_wp2_with fail
       refine hwi.mono ?_;rintro e w5 ⟨rfl,b5⟩;have hv5:Boxed w5 (w.heap.size+1) 35 (.slice va out.length vc):=blk_below hvC b5;have hrow5:=own_below hrowC b5;have kL5:=blk_below kLC b5;have kP5:=blk_below kPC b5;have hKO5:=hKOC.trans (keeps_below b5);have hBW5:=hBWC.trans (b5.mono hswC);have hsw5:w.heap.size<=w5.heap.size:=Nat.le_trans hswC b5.size;have hc5:=hv5.cell;clear hvC hrowC kLC kPC hKOC hBWC hwi b5
       gi_wp2_with (gi_at_builtin;refine wpListIn_append_own _ rfl _ _ 35 rfl w.heap.size 9 i0 (.string ByteArray.empty) 1 16 Tryz.underlying35 hi hz0 hz1 hz2 rfl (by decide) _ _ _ rfl (hrow5.alloc _) ⟨w5.heap.size,0,none⟩ 1 1 [.string (joB Y)] rfl rfl (cell_one_new _ _ _) (by simp [Value.oneCell']) (by unfold maxLen;omega) (by omega) (by simp;omega) ?_;intro v' w6 hown' hgrow _;obtain⟨g',cap',rfl⟩:=ownsRow_succ hown';obtain⟨hv1,hv2,hr2,hk2,hb2⟩:=hv5.appended (by decide) hrow5 hsw5 (Nat.le_succ _) hown' hgrow;have hc1:=hv1.cell;have hf1:=hv1.frozen;have kL6:=nt_keep kL5 hrow5 hgrow (b:=w.heap.size+1) (y:=.slice (some ⟨g',0,none⟩) (out.length+1) cap') (by decide) (by omega);have kP6:=nt_keep kP5 hrow5 hgrow (b:=w.heap.size+1) (y:=.slice (some ⟨g',0,none⟩) (out.length+1) cap') (by decide) (by omega))
       go_roundw
       case rel=>exact⟨(lab.length),out++[Y],_,by omega,by go_num,HK2,by simp;omega,hv2,by simpa [joV] using hr2,kL6,kP6,hKO5.trans hk2,hBW5.trans hb2⟩
       case measure=>simp [intOf]
      ·have hsv:=HSV.out;rw [if_neg hcm] at hsv
       obtain⟨ad,had⟩:∃ ad,la=some ad:=by
        cases la with
        |none=>have:=hnil rfl;omega
        |some ad=>exact⟨ad,rfl⟩
       subst had;simp only [Option.map_some] at hsv;subst hsv;have hlt2:m<lc:=by omega
       have hwi:=CallsIn.inRound l (HX.out.2.2.2.2 _ Y (n-1-1-1) wc HSRC.out hgy)
       gi_wp2_with fail
       refine hwi.mono ?_;rintro e w5 ⟨rfl,b5⟩;have hv5:Boxed w5 (w.heap.size+1) 35 (.slice va out.length vc):=blk_below hvC b5;have hrow5:=own_below hrowC b5;have kL5:=blk_below kLC b5;have kP5:=blk_below kPC b5;have hKO5:=hKOC.trans (keeps_below b5);have hBW5:=hBWC.trans (b5.mono hswC);have hsw5:w.heap.size<=w5.heap.size:=Nat.le_trans hswC b5.size;have hc5:=hv5.cell;clear hvC hrowC kLC kPC hKOC hBWC hwi b5
       gi_wp2_with (gi_at_builtin;refine wpListIn_append_own _ rfl _ _ 35 rfl w.heap.size 9 i0 (.string ByteArray.empty) 1 16 Tryz.underlying35 hi hz0 hz1 hz2 rfl (by decide) _ _ _ rfl (hrow5.alloc _) ⟨w5.heap.size,0,none⟩ 1 1 [.string (joB Y)] rfl rfl (cell_one_new _ _ _) (by simp [Value.oneCell']) (by unfold maxLen;omega) (by omega) (by simp;omega) ?_;intro v' w6 hown' hgrow _;obtain⟨g',cap',rfl⟩:=ownsRow_succ hown';obtain⟨hv1,hv2,hr2,hk2,hb2⟩:=hv5.appended (by decide) hrow5 hsw5 (Nat.le_succ _) hown' hgrow;have hc1:=hv1.cell;have hf1:=hv1.frozen;have kL6:=nt_keep kL5 hrow5 hgrow (b:=w.heap.size+1) (y:=.slice (some ⟨g',0,none⟩) (out.length+1) cap') (by decide) (by omega);have kP6:=nt_keep kP5 hrow5 hgrow (b:=w.heap.size+1) (y:=.slice (some ⟨g',0,none⟩) (out.length+1) cap') (by decide) (by omega))
       go_roundw
       case rel=>exact⟨m,out++[Y],_,by omega,by go_num,HK2,by simp;omega,hv2,by simpa [joV] using hr2,kL6,kP6,hKO5.trans hk2,hBW5.trans hb2⟩
       case measure=>simp [intOf]
 case done=>
  rintro D ys W hD rfl ⟨⟨v,hv,hrow,-⟩,-,hB⟩ hK;rw [List.attach_map_subtype_val] at hrow;have hc:=hv.cell
  gi_wp2
  refine⟨by simp,.inl ⟨_,_,rfl,run_takeDeferred hK,?_⟩⟩;exact⟨_,results_tmp rfl _ _ _,v,rfl,ownsRow_putObj hrow _ hK rfl,hB.trans (belowK_b (w:=w) (Nat.le_refl _) W D _ _ (by omega) hK rfl rfl)⟩
 case stop=>
  rintro D c pre W _ _ h _;exact h.elim
theorem names_any(bb oo th:Nat)(rv:Value)(os:List GOw)(B:Nat)(aa:Option Addr)(ac:Nat)(al:List ByteArray)(w:World)(h:TrAt w B th rv os)(hl:os.length<=400000)(hLab:LabAt w (fpT th rv os) os)(hgl:∀ q∈os,Gl q.lab∧al.length<=q.lab.length)(hc:w.cell? ⟨bb,oo+1,none⟩=some (ptr th))(hca:w.cell? ⟨bb,oo,none⟩=some (.slice aa al.length ac)):
 Calls Tryz.prog 23 #[.pointer (some ⟨bb,oo,none⟩)] w fun e W'=>∃ v,e=.returned v∧W'.ownsRow w.heap.size 9 1 v (nmT al os).1.length ((nmT al os).1.map joV)∧Below w.heap.size w W':=
 (callsIn_wide (n:=9)).1 (names_in Fence.wide 9 trivial trivial trivial trivial trivial rfl (by omega) bb oo th rv os B aa ac al w h hl hLab hgl hc hca
  (fun u v xs ys m W h1 h2 h3 h4 h5=>callsIn_wide.2 ((under_any u v xs ys W h1 h2 h3 h4 h5).mono (by rintro e w' ⟨he,m,rfl⟩;exact⟨he,Go.below_drewN (Below.refl _ _) _⟩)))
  (fun v ys m W h1 h2=>callsIn_wide.2 (by have:=wire_any v ys W h1 (by have:=h2.2;omega);rwa [wireS_short h2.2,wireC_short h2.2] at this)))
end Go.Proofs.YtahpiciofdfipaaGreat
