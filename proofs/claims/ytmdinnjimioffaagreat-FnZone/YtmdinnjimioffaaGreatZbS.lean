import Derived.Test.YtmdinnjimioffaaGreatJZtM
import Derived.Test.YtmdinnjimioffaaGreatZbT
import Derived.Test.YtmdinnjimioffaaGreatJOrdL
import Derived.Test.YtmdinnjimioffaaGreatJTrM
import Derived.Deep.RegionHeld3
import Derived.Maps.AppendAt
namespace Go.Proofs.YtmdinnjimioffaaGreat
open Go.RowKit
set_option linter.unusedVariables false
theorem Tryz.infoItem:(Tryz.prog.info? 58).map (fun i=>(i.zero,i.size,i.bytes))=some (some (.agg #[.string ByteArray.empty,.int .i64 0,.int .i64 0,.int .i64 0,.string ByteArray.empty,.string ByteArray.empty,.string ByteArray.empty,.bool false]),8,96):=by kernel_rfl
set_option maxRecDepth 100000 in
set_option maxHeartbeats 3200000 in
theorem l06Sort_any:∀ (n:Nat) (v:Value) (l:List It) (w:World),CRow w v l.length 8 (itCs l)->l.length<=n->l.length<=1000000->(∀ x∈l,x.fo.size<=maxLen)->
 Calls Tryz.prog 26 #[v] w fun e w'=>∃ u,e=.returned u∧CRow w' u l.length 8 (itCs (sortF n l))∧Below w.heap.size w w':=by
 obtain⟨i0,hi,hz0,hz1,hz2⟩:=info_parts Tryz.infoItem;intro n
 induction n with
 |zero=>
  intro v l w h hn hl hfo;have hr:=h;obtain⟨_,a,cap,rfl,hcap,hmx,hc⟩:=h;have hz:l.length=0:=by omega
  have i1:(l.length:Int)<2:=by omega
  clear hc;go_enter Tryz.func26,Tryz.ntmps26;go_wp2;go_ret
  exact⟨_,rfl,hr,Below.refl _ _⟩
 |succ n ih=>
  intro v l w h hn hl hfo
  by_cases hs:l.length<2
  ·have hr:=h;rw [sortF_small hs];obtain⟨_,a,cap,rfl,hcap,hmx,hc⟩:=h;have i1:(l.length:Int)<2:=by omega
   clear hc ih;go_enter Tryz.func26,Tryz.ntmps26;go_wp2;go_ret;exact⟨_,rfl,hr,Below.refl _ _⟩
  ·have hr:=h;obtain⟨_,a,cap,rfl,hcap,hmx,hc⟩:=h;obtain⟨b,off,rfl,_⟩:=hc (by omega);clear hc;have i1:¬(l.length:Int)<2:=by omega
   obtain⟨hf,hhf⟩:∃ hf,hf=l.length / 2:=⟨_,rfl⟩;have hh1:0<hf:=by omega
   have hh2:hf<l.length:=by omega
   have hq:(l.length:Int) / 2=(hf:Int):=by omega
   have hra:=cr_take hr (Nat.le_of_lt hh2);have hrb:=cr_drop hr hh2;have hla:(l.take hf).length=hf:=by rw [List.length_take];omega
   have hlb:(l.drop hf).length=l.length-hf:=List.length_drop;have ha:=ih _ (l.take hf) w hra (by omega) (by omega) (fun x hx=>hfo x (List.mem_of_mem_take hx));have hb:=fun W hW=>ih _ (l.drop hf) W (hrb.below hW) (by omega) (by omega) (fun x hx=>hfo x (List.mem_of_mem_drop hx))
   have HSF:Hid (sortF (n+1) l=List.merge (sortF n (l.take hf)) (sortF n (l.drop hf)) befI):=by show _=_;rw [hhf];exact sortF_big hs
   rw [hla] at ha;rw [hlb] at hb;unfold maxLen at hmx;have hc2:¬cap=hf:=by omega
   clear ih hr hra hrb hhf hs;go_enter Tryz.func26,Tryz.ntmps26;go_wp2_with fail
   refine ha.mono ?_;rintro e w1 ⟨u1,rfl,hA,b1⟩;obtain⟨u1a,u1c,hu1⟩:∃ a c,u1=.slice a hf c:=by obtain⟨_,a,c,e,_⟩:=hA;exact⟨a,c,e⟩
   subst hu1;go_wp2_with fail
   refine(hb w1 b1).mono ?_;rintro e w2 ⟨u2,rfl,hB,b2⟩;obtain⟨u2a,u2c,hu2⟩:∃ a c,u2=.slice a (l.length-hf) c:=by obtain⟨_,a,c,e,_⟩:=hB;exact⟨a,c,e⟩
   subst hu2;have hA2:=hA.below b2;have B2:=Nm.below_two b1 b2;have hAl:(sortF n (l.take hf)).length=hf:=by rw [sortF_len,hla]
   have hBl:(sortF n (l.drop hf)).length=l.length-hf:=by rw [sortF_len,hlb]
   have hAf:∀ x∈sortF n (l.take hf),x.fo.size<=maxLen:=fun x hx=>hfo x (List.mem_of_mem_take (sortF_mem.1 hx))
   have hBf:∀ x∈sortF n (l.drop hf),x.fo.size<=maxLen:=fun x hx=>hfo x (List.mem_of_mem_drop (sortF_mem.1 hx))
   clear ha hb hA b1 b2 hla hlb;generalize sortF n (l.take hf)=LA at*;generalize sortF n (l.drop hf)=LB at*;obtain⟨M,hM⟩:∃ M,List.merge LA LB befI=M:=⟨_,rfl⟩;have HM:=Nm.hide hM;have HSF2:Hid (sortF (n+1) l=M):=HSF.out.trans hM;obtain⟨lb,hlb⟩:∃ lb,l.length-hf=lb:=⟨_,rfl⟩;rw [hlb] at hBl hB;have hlb2:(l.length:Nat)=hf+lb:=by omega
   have o0:=World.ownsRow_lit (base:=w2.heap.size) (e:=58) (size:=8) w2 #[] 0 (Nat.le_refl _) (by decide) rfl;have HH:=Nm.hide (And.intro hA2 (And.intro hB (And.intro hAf hBf)));have HL:=Nm.hide (And.intro hAl hBl);have HLN:=Nm.hide hlb2;clear hA2 hB hAf hBf hM HSF hq hAl hBl hc2;go_wp2;clear hlb hlb2
   go_loopw [5,6,7] (fun vo vi vk wr=>∃ (i k:Nat) (O:List It),i<=hf∧k<=lb∧vi=.int .i64 i∧vk=.int .i64 k∧Hid (O++List.merge (LA.drop i) (LB.drop k) befI=M∧O.length=i+k)∧wr.ownsRow w2.heap.size 58 8 vo (i+k) (itCs O)∧Below w2.heap.size w2 wr) (fun _ vi vk _=>(hf-(intOf vi).toNat)+(lb-(intOf vk).toNat))
   case atStart=>exact⟨0,0,[],by omega,by omega,rfl,rfl,⟨HM.out,rfl⟩,o0,(Below.refl _ _).alloc (Nat.le_refl _) _⟩
   case round=>
    clear o0;obtain⟨i,k,O,hi1,hk1,rfl,rfl,HO,oO,hbel⟩:=hrel;have hln:=HLN.out;obtain⟨oa,oc,hov⟩:=own_sl oO;subst hov;have n1:(0:Int)<=(i:Int):=by omega
    have n2:(0:Int)<=(k:Int):=by omega
    by_cases hil:i<hf
    ·obtain⟨x,hx⟩:∃ x,LA[i]? =some x:=⟨_,List.getElem?_eq_getElem (by have:=HL.out.1;omega)⟩
     have hCellA:∀ W,Below w2.heap.size w2 W->∃ ab ao,u1a=some ⟨ab,ao,none⟩∧∀ (j:Nat) (z:Value),(itCs LA)[j]? =some z->W.cell? ⟨ab,ao+j,none⟩=some z:=by
      intro W hW;obtain⟨_,a',c',e',_,_,hc⟩:=HH.out.1.below hW;simp only [Value.slice.injEq] at e';obtain⟨rfl,_,rfl⟩:=e';exact hc (by omega)
     have i1:(i:Int)<(hf:Int):=by omega
     by_cases hkl:k<lb
     ·obtain⟨y,hy⟩:∃ y,LB[k]? =some y:=⟨_,List.getElem?_eq_getElem (by have:=HL.out.2;omega)⟩
      have hCellB:∀ W,Below w2.heap.size w2 W->∃ bb bo,u2a=some ⟨bb,bo,none⟩∧∀ (j:Nat) (z:Value),(itCs LB)[j]? =some z->W.cell? ⟨bb,bo+j,none⟩=some z:=by
       intro W hW;obtain⟨_,a',c',e',_,_,hc⟩:=HH.out.2.1.below hW;simp only [Value.slice.injEq] at e';obtain⟨rfl,_,rfl⟩:=e';exact hc (by omega)
      have k1:(k:Int)<(lb:Int):=by omega
      have k2:((k:Int)==(lb:Int))=false:=by simp;omega
      obtain⟨ab,ao,rfl,hcA⟩:=hCellA wr hbel;obtain⟨bb,bo,rfl,hcB⟩:=hCellB wr hbel
      have hS:∀ W,Below wr.heap.size wr W->(W.cell? ⟨ab,ao+i*8,none⟩=some (.string x.r.own)∧W.cell? ⟨ab,ao+i*8+1,none⟩=some (.int .i64 x.r.ty)∧W.cell? ⟨ab,ao+i*8+2,none⟩=some (.int .i64 x.r.cl)∧W.cell? ⟨ab,ao+i*8+3,none⟩=some (.int .i64 x.r.tt)∧W.cell? ⟨ab,ao+i*8+4,none⟩=some (.string x.r.da)∧W.cell? ⟨ab,ao+i*8+5,none⟩=some (.string x.fo)∧W.cell? ⟨ab,ao+i*8+6,none⟩=some (.string x.dt)∧W.cell? ⟨ab,ao+i*8+7,none⟩=some (.bool x.out))∧(W.cell? ⟨bb,bo+k*8,none⟩=some (.string y.r.own)∧W.cell? ⟨bb,bo+k*8+1,none⟩=some (.int .i64 y.r.ty)∧W.cell? ⟨bb,bo+k*8+2,none⟩=some (.int .i64 y.r.cl)∧W.cell? ⟨bb,bo+k*8+3,none⟩=some (.int .i64 y.r.tt)∧W.cell? ⟨bb,bo+k*8+4,none⟩=some (.string y.r.da)∧W.cell? ⟨bb,bo+k*8+5,none⟩=some (.string y.fo)∧W.cell? ⟨bb,bo+k*8+6,none⟩=some (.string y.dt)∧W.cell? ⟨bb,bo+k*8+7,none⟩=some (.bool y.out))∧Below wr.heap.size wr W:=by
       intro W hW;obtain⟨ab',ao',e1,hcA'⟩:=hCellA W (Nm.below_two hbel hW);obtain⟨bb',bo',e2,hcB'⟩:=hCellB W (Nm.below_two hbel hW);cases e1
       cases e2
       obtain⟨c0,c1,c2,c3,c4,c5,c6,c7⟩:=it_cells hcA' hx;obtain⟨d0,d1,d2,d3,d4,d5,d6,d7⟩:=it_cells hcB' hy;exact⟨⟨c0,c1,c2,c3,c4,c5,c6,c7⟩,⟨d0,d1,d2,d3,d4,d5,d6,d7⟩,hW⟩
      have hS0:=hS _ (Below.refl _ _).drew;have hbf:=fun W=>l06Before_any x y W (HH.out.2.2.1 x (List.mem_of_getElem? hx)) (HH.out.2.2.2 y (List.mem_of_getElem? hy))
      simp only [itC] at hbf;have hiy:=fun W (hW:Below wr.heap.size wr W)=>(hbf W).mono (R':=fun e w'=>e=.returned (.bool (befI x y))∧Below wr.heap.size wr w') (by rintro e w' ⟨he,hb⟩;exact⟨he,hW.trans (hb.mono hW.size)⟩)
      have hOB:∀ W,Below wr.heap.size wr W->W.ownsRow w2.heap.size 58 8 (.slice oa (i+k) oc) (i+k) (itCs O):=fun W hW=>own_below oO hW
      have hwk:IntKind.i64.wrap (k:Int)=(k:Int):=Go.wrap_small _ (by omega) (by omega);have hwi:IntKind.i64.wrap (i:Int)=(i:Int):=Go.wrap_small _ (by omega) (by omega);clear hbf hcA hcB
      cases hP:befI x y with
      |true=>
       have HO2:Hid ((O++[x])++List.merge (LA.drop (i+1)) (LB.drop k) befI=M∧(O++[x]).length=i+1+k):=by
        refine⟨?_,by have:=HO.out.2;simp;omega⟩;rw [<- HO.out.1,merge_one hx hy hP,List.append_assoc];rfl
       rw [hP] at hiy;clear hx hy hCellA hCellB hP HO;go_wp2;go_region_held3 (fun W=>(W.cell? ⟨ab,ao+i*8,none⟩=some (.string x.r.own)∧W.cell? ⟨ab,ao+i*8+1,none⟩=some (.int .i64 x.r.ty)∧W.cell? ⟨ab,ao+i*8+2,none⟩=some (.int .i64 x.r.cl)∧W.cell? ⟨ab,ao+i*8+3,none⟩=some (.int .i64 x.r.tt)∧W.cell? ⟨ab,ao+i*8+4,none⟩=some (.string x.r.da)∧W.cell? ⟨ab,ao+i*8+5,none⟩=some (.string x.fo)∧W.cell? ⟨ab,ao+i*8+6,none⟩=some (.string x.dt)∧W.cell? ⟨ab,ao+i*8+7,none⟩=some (.bool x.out))∧(W.cell? ⟨bb,bo+k*8,none⟩=some (.string y.r.own)∧W.cell? ⟨bb,bo+k*8+1,none⟩=some (.int .i64 y.r.ty)∧W.cell? ⟨bb,bo+k*8+2,none⟩=some (.int .i64 y.r.cl)∧W.cell? ⟨bb,bo+k*8+3,none⟩=some (.int .i64 y.r.tt)∧W.cell? ⟨bb,bo+k*8+4,none⟩=some (.string y.r.da)∧W.cell? ⟨bb,bo+k*8+5,none⟩=some (.string y.fo)∧W.cell? ⟨bb,bo+k*8+6,none⟩=some (.string y.dt)∧W.cell? ⟨bb,bo+k*8+7,none⟩=some (.bool y.out))∧Below wr.heap.size wr W) (first|with_reducible assumption|with_reducible exact hS0) ((first|(go_at_call 54;refine(hiy _ hS0.2.2).mono ?_;rintro e w3 ⟨rfl,hb3⟩;have hS1:=hS _ hb3)))
       have hbE:=Nm.below_two hbel hS1.2.2;have oO':w3.ownsRow w2.heap.size 58 8 (.slice oa (i+k) oc) (i+k) (itCs O):=hOB _ hS1.2.2;obtain⟨⟨c0,c1,c2,c3,c4,c5,c6,c7⟩,⟨d0,d1,d2,d3,d4,d5,d6,d7⟩,_⟩:=hS1;clear hS hS0 hiy;go_wp2_with (at_builtin;refine wpList_append_own _ rfl (.tmp 56) (.tmp 61) 53 rfl w2.heap.size 58 i0 _ 8 96 Tryz.underlying53 hi hz0 hz1 hz2 rfl (by decide) _ _ _ rfl (own_below oO' ((Below.refl _ _).alloc (Nat.le_refl _) _)) ⟨w3.heap.size,0,none⟩ 1 1 (itC x) rfl rfl (cell_newV _ _ _) (by intro u hu;simp [itC] at hu;rcases hu with rfl|rfl|rfl|rfl|rfl|rfl|rfl|rfl<;>rfl) (by unfold maxLen;omega) (by omega) (by have:=hbE.size;simp;omega) ?_;intro va wa ho9 hg9 hnl9)
       rw [show itCs O++itC x=itCs (O++[x]) from(itCs_snoc O x).symm] at ho9;go_wp2;go_roundw
       case rel=>exact⟨i+1,k,O++[x],by omega,by omega,by go_num,rfl,HO2,by rw [show i+1+k=i+k+1 by omega];exact ho9,(hbE.alloc hbE.size _).grown hg9 (by have:=hbE.size;simp;omega) (fun g hg=>(oO'.lt g hg).1)⟩
       case measure=>simp [intOf];omega
      |false=>
       have HO2:Hid ((O++[y])++List.merge (LA.drop i) (LB.drop (k+1)) befI=M∧(O++[y]).length=i+(k+1)):=by
        refine⟨?_,by have:=HO.out.2;simp;omega⟩;rw [<- HO.out.1,merge_two hx hy hP,List.append_assoc];rfl
       rw [hP] at hiy;clear hx hy hCellA hCellB hP HO;go_wp2;go_region_held3 (fun W=>(W.cell? ⟨ab,ao+i*8,none⟩=some (.string x.r.own)∧W.cell? ⟨ab,ao+i*8+1,none⟩=some (.int .i64 x.r.ty)∧W.cell? ⟨ab,ao+i*8+2,none⟩=some (.int .i64 x.r.cl)∧W.cell? ⟨ab,ao+i*8+3,none⟩=some (.int .i64 x.r.tt)∧W.cell? ⟨ab,ao+i*8+4,none⟩=some (.string x.r.da)∧W.cell? ⟨ab,ao+i*8+5,none⟩=some (.string x.fo)∧W.cell? ⟨ab,ao+i*8+6,none⟩=some (.string x.dt)∧W.cell? ⟨ab,ao+i*8+7,none⟩=some (.bool x.out))∧(W.cell? ⟨bb,bo+k*8,none⟩=some (.string y.r.own)∧W.cell? ⟨bb,bo+k*8+1,none⟩=some (.int .i64 y.r.ty)∧W.cell? ⟨bb,bo+k*8+2,none⟩=some (.int .i64 y.r.cl)∧W.cell? ⟨bb,bo+k*8+3,none⟩=some (.int .i64 y.r.tt)∧W.cell? ⟨bb,bo+k*8+4,none⟩=some (.string y.r.da)∧W.cell? ⟨bb,bo+k*8+5,none⟩=some (.string y.fo)∧W.cell? ⟨bb,bo+k*8+6,none⟩=some (.string y.dt)∧W.cell? ⟨bb,bo+k*8+7,none⟩=some (.bool y.out))∧Below wr.heap.size wr W) (first|with_reducible assumption|with_reducible exact hS0) ((first|(go_at_call 54;refine(hiy _ hS0.2.2).mono ?_;rintro e w3 ⟨rfl,hb3⟩;have hS1:=hS _ hb3)))
       have hbE:=Nm.below_two hbel hS1.2.2;have oO':w3.ownsRow w2.heap.size 58 8 (.slice oa (i+k) oc) (i+k) (itCs O):=hOB _ hS1.2.2;obtain⟨⟨c0,c1,c2,c3,c4,c5,c6,c7⟩,⟨d0,d1,d2,d3,d4,d5,d6,d7⟩,_⟩:=hS1;clear hS hS0 hiy;go_wp2_with (at_builtin;refine wpList_append_own _ rfl (.tmp 65) (.tmp 70) 53 rfl w2.heap.size 58 i0 _ 8 96 Tryz.underlying53 hi hz0 hz1 hz2 rfl (by decide) _ _ _ rfl (own_below oO' ((Below.refl _ _).alloc (Nat.le_refl _) _)) ⟨w3.heap.size,0,none⟩ 1 1 (itC y) rfl rfl (cell_newV _ _ _) (by intro u hu;simp [itC] at hu;rcases hu with rfl|rfl|rfl|rfl|rfl|rfl|rfl|rfl<;>rfl) (by unfold maxLen;omega) (by omega) (by have:=hbE.size;simp;omega) ?_;intro va wa ho9 hg9 hnl9)
       rw [show itCs O++itC y=itCs (O++[y]) from(itCs_snoc O y).symm] at ho9;go_wp2;go_roundw
       case rel=>exact⟨i,k+1,O++[y],by omega,by omega,rfl,by go_num,HO2,by rw [show i+(k+1)=i+k+1 by omega];exact ho9,(hbE.alloc hbE.size _).grown hg9 (by have:=hbE.size;simp;omega) (fun g hg=>(oO'.lt g hg).1)⟩
       case measure=>simp [intOf];omega
     ·obtain rfl:k=lb:=by omega
      have k1:((k:Int)==(k:Int))=true:=by simp
      have HO2:Hid ((O++[x])++List.merge (LA.drop (i+1)) (LB.drop k) befI=M∧(O++[x]).length=i+1+k):=by
       refine⟨?_,by have:=HO.out.2;simp;omega⟩;have hk:=HL.out.2;rw [<- HO.out.1,<- hk,merge_left hx,List.append_assoc];rfl
      obtain⟨ab,ao,rfl,hcA⟩:=hCellA wr hbel;obtain⟨c0,c1,c2,c3,c4,c5,c6,c7⟩:=it_cells hcA hx;clear hx hcA hCellA HO;go_wp2;go_quiet (fail)
      generalize hwE:World.drewN wr _=wE;have hbE:Below w2.heap.size w2 wE:=by rw [<- hwE];exact Go.below_drewN hbel _
      have oO':wE.ownsRow w2.heap.size 58 8 (.slice oa (i+k) oc) (i+k) (itCs O):=by rw [<- hwE];exact own_dN oO _
      have hcE:∀ p,wE.cell? p=wr.cell? p:=by intro p;rw [<- hwE];simp
      have c0E:=(hcE _).trans c0;have c1E:=(hcE _).trans c1;have c2E:=(hcE _).trans c2;have c3E:=(hcE _).trans c3;have c4E:=(hcE _).trans c4;have c5E:=(hcE _).trans c5;have c6E:=(hcE _).trans c6;have c7E:=(hcE _).trans c7;clear hwE;go_wp2_with (at_builtin;refine wpList_append_own _ rfl (.tmp 56) (.tmp 61) 53 rfl w2.heap.size 58 i0 _ 8 96 Tryz.underlying53 hi hz0 hz1 hz2 rfl (by decide) _ _ _ rfl (own_below oO' ((Below.refl _ _).alloc (Nat.le_refl _) _)) ⟨wE.heap.size,0,none⟩ 1 1 (itC x) rfl rfl (cell_newV _ _ _) (by intro u hu;simp [itC] at hu;rcases hu with rfl|rfl|rfl|rfl|rfl|rfl|rfl|rfl<;>rfl) (by unfold maxLen;omega) (by omega) (by have:=hbE.size;simp;omega) ?_;intro va wa ho9 hg9 hnl9)
      rw [show itCs O++itC x=itCs (O++[x]) from(itCs_snoc O x).symm] at ho9;go_wp2;go_roundw
      case rel=>exact⟨i+1,k,O++[x],by omega,by omega,by go_num,rfl,HO2,by rw [show i+1+k=i+k+1 by omega];exact ho9,(hbE.alloc hbE.size _).grown hg9 (by have:=hbE.size;simp;omega) (fun g hg=>(oO'.lt g hg).1)⟩
      case measure=>simp [intOf];omega
    ·obtain rfl:i=hf:=by omega
     have i1:(i:Int)<=(i:Int):=by omega
     by_cases hkl:k<lb
     ·obtain⟨y,hy⟩:∃ y,LB[k]? =some y:=⟨_,List.getElem?_eq_getElem (by have:=HL.out.2;omega)⟩
      have hCellB:∀ W,Below w2.heap.size w2 W->∃ bb bo,u2a=some ⟨bb,bo,none⟩∧∀ (j:Nat) (z:Value),(itCs LB)[j]? =some z->W.cell? ⟨bb,bo+j,none⟩=some z:=by
       intro W hW;obtain⟨_,a',c',e',_,_,hc⟩:=HH.out.2.1.below hW;simp only [Value.slice.injEq] at e';obtain⟨rfl,_,rfl⟩:=e';exact hc (by omega)
      have k1:(k:Int)<(lb:Int):=by omega
      have k2:((k:Int)==(lb:Int))=false:=by simp;omega
      have i2:decide ((i:Int)<(i:Int))=false:=by simp
      have HO2:Hid ((O++[y])++List.merge (LA.drop i) (LB.drop (k+1)) befI=M∧(O++[y]).length=i+(k+1)):=by
       refine⟨?_,by have:=HO.out.2;simp;omega⟩;have hk:=HL.out.1;rw [<- HO.out.1,<- hk,merge_right' hy,List.append_assoc];rfl
      obtain⟨bb,bo,rfl,hcB⟩:=hCellB wr hbel;obtain⟨c0,c1,c2,c3,c4,c5,c6,c7⟩:=it_cells hcB hy;clear hy hcB hCellB HO;go_wp2;go_quiet (fail)
      generalize hwE:World.drewN wr _=wE;have hbE:Below w2.heap.size w2 wE:=by rw [<- hwE];exact Go.below_drewN hbel _
      have oO':wE.ownsRow w2.heap.size 58 8 (.slice oa (i+k) oc) (i+k) (itCs O):=by rw [<- hwE];exact own_dN oO _
      have hcE:∀ p,wE.cell? p=wr.cell? p:=by intro p;rw [<- hwE];simp
      have c0E:=(hcE _).trans c0;have c1E:=(hcE _).trans c1;have c2E:=(hcE _).trans c2;have c3E:=(hcE _).trans c3;have c4E:=(hcE _).trans c4;have c5E:=(hcE _).trans c5;have c6E:=(hcE _).trans c6;have c7E:=(hcE _).trans c7;clear hwE;go_wp2_with (at_builtin;refine wpList_append_own _ rfl (.tmp 65) (.tmp 70) 53 rfl w2.heap.size 58 i0 _ 8 96 Tryz.underlying53 hi hz0 hz1 hz2 rfl (by decide) _ _ _ rfl (own_below oO' ((Below.refl _ _).alloc (Nat.le_refl _) _)) ⟨wE.heap.size,0,none⟩ 1 1 (itC y) rfl rfl (cell_newV _ _ _) (by intro u hu;simp [itC] at hu;rcases hu with rfl|rfl|rfl|rfl|rfl|rfl|rfl|rfl<;>rfl) (by unfold maxLen;omega) (by omega) (by have:=hbE.size;simp;omega) ?_;intro va wa ho9 hg9 hnl9)
      rw [show itCs O++itC y=itCs (O++[y]) from(itCs_snoc O y).symm] at ho9;go_wp2;go_roundw
      case rel=>exact⟨i,k+1,O++[y],by omega,by omega,rfl,by go_num,HO2,by rw [show i+(k+1)=i+k+1 by omega];exact ho9,(hbE.alloc hbE.size _).grown hg9 (by have:=hbE.size;simp;omega) (fun g hg=>(oO'.lt g hg).1)⟩
      case measure=>simp [intOf];omega
     ·obtain rfl:k=lb:=by omega
      have k1:(k:Int)<=(k:Int):=by omega
      have HE:Hid (O=M):=by
       show _=_
       have h1:=HL.out.1;have h2:=HL.out.2;have:=HO.out.1;rw [List.drop_of_length_le (by omega),List.drop_of_length_le (by omega)] at this;simpa using this
      go_wp2;go_ret;refine⟨_,rfl,?_,Nm.below_two B2 hbel⟩;rw [HSF2.out,<- HE.out,hln];exact CRow.of_owns oO
end Go.Proofs.YtmdinnjimioffaaGreat
