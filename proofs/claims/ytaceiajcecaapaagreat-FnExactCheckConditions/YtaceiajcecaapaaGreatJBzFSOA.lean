import Derived.Test.YtaceiajcecaapaaGreatJZbG
import Derived.Test.YtaceiajcecaapaaGreatJZrI
import Derived.Deep.AppendSrc
import Derived.Test.YtaceiajcecaapaaGreatJCRow
namespace Go.Proofs.YtaceiajcecaapaaGreat
open Go.RowKit
set_option linter.unusedVariables false
set_option maxRecDepth 100000 in
set_option maxHeartbeats 1600000 in
theorem firstSOA_any(bb:Nat)(cq:Nat)(code:Int)(v:Value)(ls:List Ld)(f:Ld->Bool)(w:World)(hk:w.cell? ⟨bb,5,none⟩=some v)(h:CRow w v ls.length 4 (ldVs ls))(hl:ls.length<=1000000)
 (hf:∀ x∈ls,∀ W,Below w.heap.size w W->Calls Tryz.prog 108 #[.agg #[.int .i64 (x.at_:Int),.int .i64 x.ty,.pointer (some ⟨x.ob,0,none⟩),.pointer (some ⟨x.sb,0,none⟩)],.pointer (some ⟨cq,0,none⟩)] W fun e w'=>e=.returned (.bool (f x))∧Below W.heap.size W w'):
 Calls Tryz.prog 107 #[.pointer (some ⟨bb,0,none⟩),.int .i64 code,.func (.func 108) #[] #[.pointer (some ⟨cq,0,none⟩)]] w fun e w'=>e=.returned (fstR f code ls)∧Below w.heap.size w w':=by
 obtain⟨_,a,cap,rfl,hcap,hmx,hc⟩:=h;unfold maxLen at hmx;have HF:=Nm.hide hf;clear hf;go_enter Tryz.func107,Tryz.ntmps107;go_wp2
 go_loopw [15] (fun i wr=>∃ k:Nat,k<=ls.length∧i=.int .i64 k∧(∀ j x,j<k->ls[j]? =some x->f x=false)∧Below w.heap.size w wr) (fun i _=>ls.length-(intOf i).toNat)
 case atStart=>exact⟨0,Nat.zero_le _,rfl,fun j x hj=>absurd hj (Nat.not_lt_zero _),Below.refl _ _⟩
 case round=>
  obtain⟨k,hk',rfl,hno,hbel⟩:=hrel;have HR:=Nm.hide (And.intro hno hbel)
  by_cases hlt:k<ls.length
  ·obtain⟨x,hx⟩:∃ x,ls[k]? =some x:=⟨_,List.getElem?_eq_getElem hlt⟩;obtain⟨b,off,rfl,hcell⟩:=hc (by omega);have put:∀ {O:Nat} {z:Value},w.cell? ⟨b,O,none⟩=some z->wr.cell? ⟨b,O,none⟩=some z:=fun h=>(hbel.cell (World.block_lt_of_cell? w _ h)).trans h
   have d0:=put (hcell (k*4) _ (ld_at ls k 0 x hx (by decide)));have d1:=put (hcell (k*4+1) _ (ld_at ls k 1 x hx (by decide)));have d2:=put (hcell (k*4+2) _ (ld_at ls k 2 x hx (by decide)));have d3:=put (hcell (k*4+3) _ (ld_at ls k 3 x hx (by decide)));simp only [<- Nat.add_assoc] at d1 d2 d3;have hfx:=HF.out x (List.mem_of_getElem? hx) (wr.alloc (.cells #[.int .i64 (x.at_:Int),.int .i64 x.ty,.pointer (some ⟨x.ob,0,none⟩),.pointer (some ⟨x.sb,0,none⟩)] 149)) (hbel.alloc hbel.size _);have kb:=blk_new wr #[.int .i64 (x.at_:Int),.int .i64 x.ty,.pointer (some ⟨x.ob,0,none⟩),.pointer (some ⟨x.sb,0,none⟩)] 149;have hb1:=hbel.alloc hbel.size (.cells #[.int .i64 (x.at_:Int),.int .i64 x.ty,.pointer (some ⟨x.ob,0,none⟩),.pointer (some ⟨x.sb,0,none⟩)] 149);have HX:=Nm.hide hx;have i1:(0:Int)<=(k:Int):=by omega
   have i2:(k:Int)<(ls.length:Int):=by omega
   clear hc hcell hx hno hbel put hk;simp only [World.size_alloc] at hfx;go_wp2_with fail
   refine hfx.mono ?_;rintro e w2 ⟨rfl,b2⟩;have kb2:=blk_below kb (by simpa using b2);have rb2:=fun i=>blk_cell kb2 i
   have hB2:=Nm.below_two hb1 (by simpa using b2);clear hfx d0 d1 d2 d3
   cases hfv:f x with
   |true=>
    have HV:=Nm.hide hfv;clear hfv;go_wp2;go_region
    all_goals go_wp2
    all_goals go_ret2
    all_goals exact⟨by rw [fst_at HR.out.1 HX.out HV.out];rfl,hB2.drew⟩
   |false=>
    have HV:=Nm.hide hfv;clear hfv;go_wp2;go_roundw
    case rel=>
     refine⟨k+1,by omega,by go_num,fun j y hj hy=>?_,hB2⟩
     rcases Nat.lt_succ_iff_lt_or_eq.1 hj with h1|rfl
     ·exact HR.out.1 j y h1 hy
     ·rw [HX.out] at hy;cases hy;exact HV.out
    case measure=>simp [intOf];omega
  ·have hke:k=ls.length:=by omega
   subst hke;clear hc hno hbel;go_wp2;go_ret2;exact⟨by rw [fst_no HR.out.1];rfl,HR.out.2⟩
set_option maxRecDepth 100000 in
set_option maxHeartbeats 1600000 in
theorem firstAlias_any(bb:Nat)(code:Int)(v:Value)(ls:List Ld)(f:Ld->Bool)(w:World)(hk:w.cell? ⟨bb,5,none⟩=some v)(h:CRow w v ls.length 4 (ldVs ls))(hl:ls.length<=1000000)
 (hf:∀ x∈ls,∀ W,Below w.heap.size w W->Calls Tryz.prog 113 #[.agg #[.int .i64 (x.at_:Int),.int .i64 x.ty,.pointer (some ⟨x.ob,0,none⟩),.pointer (some ⟨x.sb,0,none⟩)]] W fun e w'=>e=.returned (.bool (f x))∧Below W.heap.size W w'):
 Calls Tryz.prog 107 #[.pointer (some ⟨bb,0,none⟩),.int .i64 code,.func (.func 113) #[] #[]] w fun e w'=>e=.returned (fstR f code ls)∧Below w.heap.size w w':=by
 obtain⟨_,a,cap,rfl,hcap,hmx,hc⟩:=h;unfold maxLen at hmx;have HF:=Nm.hide hf;clear hf;go_enter Tryz.func107,Tryz.ntmps107;go_wp2
 go_loopw [15] (fun i wr=>∃ k:Nat,k<=ls.length∧i=.int .i64 k∧(∀ j x,j<k->ls[j]? =some x->f x=false)∧Below w.heap.size w wr) (fun i _=>ls.length-(intOf i).toNat)
 case atStart=>exact⟨0,Nat.zero_le _,rfl,fun j x hj=>absurd hj (Nat.not_lt_zero _),Below.refl _ _⟩
 case round=>
  obtain⟨k,hk',rfl,hno,hbel⟩:=hrel;have HR:=Nm.hide (And.intro hno hbel)
  by_cases hlt:k<ls.length
  ·obtain⟨x,hx⟩:∃ x,ls[k]? =some x:=⟨_,List.getElem?_eq_getElem hlt⟩;obtain⟨b,off,rfl,hcell⟩:=hc (by omega);have put:∀ {O:Nat} {z:Value},w.cell? ⟨b,O,none⟩=some z->wr.cell? ⟨b,O,none⟩=some z:=fun h=>(hbel.cell (World.block_lt_of_cell? w _ h)).trans h
   have d0:=put (hcell (k*4) _ (ld_at ls k 0 x hx (by decide)));have d1:=put (hcell (k*4+1) _ (ld_at ls k 1 x hx (by decide)));have d2:=put (hcell (k*4+2) _ (ld_at ls k 2 x hx (by decide)));have d3:=put (hcell (k*4+3) _ (ld_at ls k 3 x hx (by decide)));simp only [<- Nat.add_assoc] at d1 d2 d3;have hfx:=HF.out x (List.mem_of_getElem? hx) (wr.alloc (.cells #[.int .i64 (x.at_:Int),.int .i64 x.ty,.pointer (some ⟨x.ob,0,none⟩),.pointer (some ⟨x.sb,0,none⟩)] 149)) (hbel.alloc hbel.size _);have kb:=blk_new wr #[.int .i64 (x.at_:Int),.int .i64 x.ty,.pointer (some ⟨x.ob,0,none⟩),.pointer (some ⟨x.sb,0,none⟩)] 149;have hb1:=hbel.alloc hbel.size (.cells #[.int .i64 (x.at_:Int),.int .i64 x.ty,.pointer (some ⟨x.ob,0,none⟩),.pointer (some ⟨x.sb,0,none⟩)] 149);have HX:=Nm.hide hx;have i1:(0:Int)<=(k:Int):=by omega
   have i2:(k:Int)<(ls.length:Int):=by omega
   clear hc hcell hx hno hbel put hk;simp only [World.size_alloc] at hfx;go_wp2_with fail
   refine hfx.mono ?_;rintro e w2 ⟨rfl,b2⟩;have kb2:=blk_below kb (by simpa using b2);have rb2:=fun i=>blk_cell kb2 i
   have hB2:=Nm.below_two hb1 (by simpa using b2);clear hfx d0 d1 d2 d3
   cases hfv:f x with
   |true=>
    have HV:=Nm.hide hfv;clear hfv;go_wp2;go_region
    all_goals go_wp2
    all_goals go_ret2
    all_goals exact⟨by rw [fst_at HR.out.1 HX.out HV.out];rfl,hB2.drew⟩
   |false=>
    have HV:=Nm.hide hfv;clear hfv;go_wp2;go_roundw
    case rel=>
     refine⟨k+1,by omega,by go_num,fun j y hj hy=>?_,hB2⟩
     rcases Nat.lt_succ_iff_lt_or_eq.1 hj with h1|rfl
     ·exact HR.out.1 j y h1 hy
     ·rw [HX.out] at hy;cases hy;exact HV.out
    case measure=>simp [intOf];omega
  ·have hke:k=ls.length:=by omega
   subst hke;clear hc hno hbel;go_wp2;go_ret2;exact⟨by rw [fst_no HR.out.1];rfl,HR.out.2⟩
theorem own_some{w:World}{B e s n:Nat}{v:Value}{xs:List Value}(h:w.ownsRow B e s v n xs)(hn:0<n):∃ g c,v=.slice (some ⟨g,0,none⟩) n c:=by
 rcases h.2 with⟨_,h0⟩|⟨g,c,_,e,_⟩
 ·omega
 ·exact⟨g,c,e⟩
theorem run_append_none{P:Program}{t ty e:TypeId}{i:TypeInfo}(ht:P.underlying t=some (.slice e))(hi:P.info? e=some i)(ad:Option Addr)(n c:Nat)(hn:n<=c)(w:World):
 (Builtin.append_ #[t,t] ty #[.slice ad n c,.slice none 0 0]).run P w=.ok (.slice ad n c) w:=by
 have hs:Src P i.size t (.slice none 0 0) 0 [] w:=Src.ofNil w ht 0
 cases ad with
 |none=>simp [Builtin.append_,run_underlying ht,sizeOf,typeInfo,hi,hs.len,hn,hs.cells]
 |some a=>simp [Builtin.append_,run_underlying ht,sizeOf,typeInfo,hi,hs.len,hn,hs.cells,storeCells]
theorem wpList_append_none{P:Program}{ops:Array Oper}{rest:List Oper}{o:Oper}{a:Act}{Q:Exit->Act->World->Prop}(w:World)(hgd:o.guard=none)(s x:Operand)(t:TypeId)
 (ho:o.op=.call {callee:=.builtin .append,args:=#[s,x],argTypes:=#[t,t]}) (e:TypeId) (i:TypeInfo) (ht:P.underlying t=some (.slice e)) (hi:P.info? e=some i) (ad:Option Addr) (n c:Nat)
 (hs:a.eval s=.slice ad n c) (hx:a.eval x=.slice none 0 0) (hn:n<=c) (h:wpList P ops Q rest (a.put o.dst (.slice ad n c)) w):wpList P ops Q (o::rest) a w:=by
 refine wpList_plain hgd fun K hK=>?_
 have hr:=run_append_none (P:=P) (ty:=o.type) ht hi ad n c hn w;unfold Oper.wp execOp;simp only [ho,resolve,invoke,builtin,Sem.run_bind,Sem.run_pure,Result.andThen_ok,List.map_toArray,List.map_cons,List.map_nil,hs,hx,hr];exact hK _ _ h
set_option maxRecDepth 100000 in
set_option maxHeartbeats 3200000 in
theorem implZoneRecords_any(o:ByteArray)(v:Value)(ps:List Zp)(w:World)(h:ZRow w v ps)(hs:zsum ps<=1048576)(hf:∀ p∈ps,∀ x∈p.1.da,x.size<=1048576):
 Calls Tryz.prog 33 #[.agg #[.string o,v]] w fun e w'=>∃ u,e=.returned u∧w'.ownsRow w.heap.size 47 5 u (zoneRecs ps).length (rvVs (zoneRecs ps))∧Below w.heap.size w w':=by
 obtain⟨i0,hi,hz0,hz1,hz2⟩:=info_parts Tryz.infoRri
 have hpl:∀ p∈ps,p.1.own.size<=1048576∧p.1.da.length<=1048576:=by
  intro p hp;have:=zsum_mem ps p hp;unfold zs1 at this;omega
 obtain⟨RS,hRS⟩:∃ R,R=zoneRecs ps:=⟨_,rfl⟩;rw [<- hRS];unfold zoneRecs at hRS;have hB0:=(Below.refl w.heap.size w).alloc (Nat.le_refl _) (.cells #[.string o,v] 32);have hbx:=blk_new w #[.string o,v] 32;have hrowW:=h;have hsm:=isSmall_any o v ps _ (h.below hB0) (fun p hp=>(hpl p hp).2);obtain⟨⟨_,a,cap,rfl,hcap,hmx,_⟩,_⟩:=h;unfold maxLen at hmx
 by_cases hsmall:ps.length<=500∧dsum ps<=500
 ·rw [decide_eq_true hsmall] at hsm;have hRS2:RS=recsAll ps:=by rw [hRS,if_neg (by omega)]
  obtain⟨hs1,hs2⟩:=hsmall;have hs1':(ps.length:Int)<=500:=by omega
  clear hRS;have hdd:∀ k,dsum (ps.take k)<=500:=fun k=>by have:=dsum_take_le ps k;omega
  have hrl:=fun k=>recsAll_len (ps.take k)
  have hstep:=fun(k:Nat) (x:Zp) (h:ps[k]? =some x)=>recsAll_step h
  have hdst:=fun(k:Nat) (x:Zp) (h:ps[k]? =some x)=>dsum_step ps k x h
  go_enter Tryz.func33,Tryz.ntmps33;go_wp2_with (go_at_call 62;refine hsm.mono ?_;rintro e w1 ⟨rfl,hb1⟩;have q1:w1.cell? ⟨w.heap.size,1,none⟩=some (.slice a ps.length cap):=(blk_cell (blk_below hbx hb1) 1).trans rfl)
  have hB1:=Nm.below_two hB0 hb1;clear hsm hB0 hbx hb1 q1
  go_loopw [3,12] (fun vo vi wr=>∃ k:Nat,k<=ps.length∧vi=.int .i64 k∧wr.ownsRow w.heap.size 47 5 vo (recsAll (ps.take k)).length (rvVs (recsAll (ps.take k)))∧Below w.heap.size w wr) (fun _ vi _=>ps.length-(intOf vi).toNat)
  case atStart=>exact⟨0,Nat.zero_le _,rfl,⟨rfl,.inl ⟨rfl,rfl⟩⟩,hB1⟩
  case round=>
   obtain⟨k,hk,rfl,oO,hbel⟩:=hrel;clear hB1
   by_cases hlt:k<ps.length
   ·obtain⟨x,hxk⟩:∃ x,ps[k]? =some x:=⟨_,List.getElem?_eq_getElem hlt⟩;obtain⟨⟨_,a',cap',hv,_,_,hc⟩,hsr⟩:=hrowW.below hbel;simp only [Value.slice.injEq] at hv;obtain⟨rfl,_,rfl⟩:=hv;obtain⟨b,off,rfl,hcell⟩:=hc (by omega);obtain⟨c0,c1,c2,c3⟩:=zp_cells hcell hxk;have hmem:=List.mem_of_getElem? hxk;obtain⟨dva,dvc,hdv⟩:∃ a c,x.2=.slice a x.1.da.length c:=by obtain⟨a,c,e,_⟩:=hsr x hmem;exact⟨a,c,e⟩
    have hBa:=(Below.refl wr.heap.size wr).alloc (Nat.le_refl _) (.cells #[.string x.1.own,.int .i64 x.1.ty,.int .i64 x.1.tt,x.2] 65);have hone:=records_any x.1 x.2 _ ((hsr x hmem).below hBa) (hpl x hmem).2 (hpl x hmem).1 (hf x hmem);have hbl:Below w.heap.size w (wr.alloc (.cells #[.string x.1.own,.int .i64 x.1.ty,.int .i64 x.1.tt,x.2] 65)):=hbel.alloc hbel.size _;have oO1:=own_below oO hBa;have hsp:=hstep k x hxk;have hld:=hdst k x hxk;have hd1:=hdd (k+1);have hl0:=hrl k;have hl1:=recsOf_len x.1;have i1:(0:Int)<=(k:Int):=by omega
    have i2:(k:Int)<(ps.length:Int):=by omega
    have hlen:(recsAll (ps.take k)).length+(recsOf x.1).length<=500:=by omega
    have HT:Hid (rvVs (recsAll (ps.take k))++rvVs (recsOf x.1)=rvVs (recsAll (ps.take (k+1)))):=by show _=_;rw [hsp,rvVs_app]
    have HL:Hid ((recsAll (ps.take k)).length+(recsOf x.1).length=(recsAll (ps.take (k+1))).length):=by show _=_;rw [hsp,List.length_append]
    have h1c:=rvs_one (recsOf x.1);have hrlen:=rvVs_len (recsOf x.1);have hemp:x.1.da=[]->recsOf x.1=[]:=by intro h;simp [recsOf,h]
    clear hcell hc hsr hstep hdst hrl hdd hsp hld hl0 hmem hxk;generalize recsAll (ps.take k)=R0 at*;generalize hR1:recsAll (ps.take (k+1))=R1 at*;generalize recsOf x.1=R2 at*
    by_cases hda:x.1.da=[]
    ·have hR2:=hemp hda;subst hR2;have hone2:Calls Tryz.prog 63 #[.agg #[.string x.1.own,.int .i64 x.1.ty,.int .i64 x.1.tt,x.2]] (wr.alloc (.cells #[.string x.1.own,.int .i64 x.1.ty,.int .i64 x.1.tt,x.2] 65)) fun e w'=>e=.returned (.slice none 0 0)∧Below (wr.alloc (.cells #[.string x.1.own,.int .i64 x.1.ty,.int .i64 x.1.tt,x.2] 65)).heap.size (wr.alloc (.cells #[.string x.1.own,.int .i64 x.1.ty,.int .i64 x.1.tt,x.2] 65)) w':=hone.mono (by rintro e w' ⟨u,rfl,_,hn,hb⟩;exact⟨by rw [hn hda],hb⟩)
     clear hone hda hemp;obtain⟨⟨o1,ty,tt,da⟩,dv⟩:=x;simp only at c0 c1 c2 c3 hone2 hbl oO1 hdv
     subst hdv;obtain⟨oa,oc,hov⟩:=own_sl oO;subst hov
     have hoc:R0.length<=oc:=by
      rcases oO.2 with⟨h0,h1⟩|⟨g,c,_,h0,_,_,h1,_⟩
      ·rw [h1];exact Nat.zero_le _
      ·simp only [Value.slice.injEq] at h0;omega
     go_wp2_with (first|(go_at_call 63;refine hone2.mono ?_;rintro e w2 ⟨rfl,hb2⟩;have oO2:=own_below oO1 hb2;have hbb:=Nm.below_two hbl hb2)|(at_builtin;refine wpList_append_none _ rfl (.tmp 16) (.tmp 18) 34 rfl 47 i0 Tryz.underlying34 hi oa R0.length oc rfl rfl hoc ?_))
     have eT:=HT.out;rw [show rvVs ([]:List Rr)=[] from rfl,List.append_nil] at eT;have ho9:=oO2;rw [eT] at ho9;have hL:=HL.out;simp at hL;go_roundw
     case rel=>exact⟨k+1,by omega,by go_num,by rw [hR1,<- hL];exact ho9,hbb⟩
     case measure=>simp [intOf];omega
    ·have hm:0<R2.length:=by
      rw [hl1]
      cases hq:x.1.da with
      |nil=>exact absurd hq hda
      |cons _ _=>simp
     clear hemp hda hl1;obtain⟨⟨o1,ty,tt,da⟩,dv⟩:=x;simp only at c0 c1 c2 c3 hone hbl oO1 hdv
     subst hdv;obtain⟨oa,oc,hov⟩:=own_sl oO;subst hov;go_wp2_with (first|(go_at_call 63;refine hone.mono ?_;rintro e w2 ⟨u,rfl,hu,_,hb2⟩;obtain⟨ug,uc,hg⟩:=own_some hu hm;subst hg;have oO2:=own_below oO1 hb2;have hbb:=Nm.below_two hbl hb2)|(at_builtin;refine wpList_append_own _ rfl (.tmp 16) (.tmp 18) 34 rfl w.heap.size 47 i0 _ 5 56 Tryz.underlying34 hi hz0 hz1 hz2 rfl (by decide) (.slice oa R0.length oc) R0.length (rvVs R0) rfl oO2 ⟨ug,0,none⟩ R2.length uc (rvVs R2) rfl hrlen (fun j y hy=>by rw [Nm.addr_add,Nat.zero_add,hu.cellAt j (by have:=(List.getElem?_eq_some_iff.1 hy).1;omega)];exact hy) h1c (by unfold maxLen;omega) (by omega) hbb.size ?_;intro va wa ho9 hg9 hnl9))
     rw [HT.out,HL.out] at ho9;have b9:Below w.heap.size w wa:=hbb.grown hg9 hbb.size (fun g hg=>(oO2.lt g hg).1);go_wp2;go_roundw
     case rel=>exact⟨k+1,by omega,by go_num,by rw [hR1];exact ho9,b9⟩
     case measure=>simp [intOf];omega
   ·have hkl:k=ps.length:=by omega
    subst hkl;have i2:(ps.length:Int)<=(ps.length:Int):=by omega
    rw [List.take_length,<- hRS2] at oO;clear hrowW hstep hdst hrl hdd hRS2 hpl hf;go_wp2;go_ret;exact⟨_,rfl,oO,hbel⟩
 ·rw [decide_eq_false hsmall] at hsm;obtain rfl:RS=[]:=by rw [hRS,if_pos (by omega)]
  clear hRS hrowW hsmall;go_enter Tryz.func33,Tryz.ntmps33;go_wp2_with (go_at_call 62;refine hsm.mono ?_;rintro e w1 ⟨rfl,hb1⟩)
  go_ret;exact⟨_,rfl,⟨rfl,.inl ⟨rfl,rfl⟩⟩,Nm.below_two hB0 hb1⟩
theorem valid1_any(r:Rr)(w:World)(ho:r.own.size<=1048576)(hd:r.da.size<=1048576):
 Calls Tryz.prog 79 #[.agg #[.string r.own,.int .i64 r.ty,.int .i64 r.cl,.int .i64 r.tt,.string r.da]] w fun e w'=>e=.returned (.bool (!rcOK r))∧Below w.heap.size w w':=by
 have hR0:=RB.new w r 47;have hB0:=(Below.refl w.heap.size w).alloc (Nat.le_refl _) (.cells #[.string r.own,.int .i64 r.ty,.int .i64 r.cl,.int .i64 r.tt,.string r.da] 47);have hv:=fun W=>validRecord_any r W ho hd
 generalize rcOK r=B at*;obtain⟨o,ty,cl,tt,da⟩:=r;obtain⟨c0,c1,c2,c3,c4⟩:=hR0;simp only at hB0 hv c0 c1 c2 c3 c4 ⊢
 clear ho hd;go_enter Tryz.func79,Tryz.ntmps79;go_wp2_with (go_at_call 80;refine(hv _).mono ?_;rintro e w1 ⟨rfl,hb1⟩)
 go_ret;exact⟨rfl,Nm.below_two hB0 hb1⟩
set_option maxRecDepth 100000 in
set_option maxHeartbeats 1600000 in
theorem validAt_any(v:Value)(xs:List Rr)(w:World)(h:CRow w v xs.length 5 (rvVs xs))(hx:∀ r∈xs,r.own.size<=1048576∧r.da.size<=1048576):
 Calls Tryz.prog 123 #[v,.func (.func 79) #[] #[]] w fun e w'=>Below w.heap.size w w'∧∃ i:Int,e=.returned (.int .i64 i)∧((xs.all rcOK=true∧i= -1)∨(xs.all rcOK=false∧0<=i)):=by
 obtain⟨_,a,cap,rfl,hcap,hmx,hc⟩:=h;unfold maxLen at hmx;have hs:=fun(r:Rr) (hr:r∈xs) W=>valid1_any r W (hx r hr).1 (hx r hr).2
 clear hx;go_enter Tryz.func123,Tryz.ntmps123;go_wp2
 go_loopw [8] (fun i wr=>∃ k:Nat,k<=xs.length∧i=.int .i64 k∧Hid ((xs.take k).all rcOK=true)∧Below w.heap.size w wr) (fun i _=>xs.length-(intOf i).toNat)
 case atStart=>exact⟨0,Nat.zero_le _,rfl,by show _=_;simp,Below.refl _ _⟩
 case round=>
  obtain⟨k,hk,rfl,HA,hbel⟩:=hrel
  by_cases hlt:k<xs.length
  ·obtain⟨x,hxk⟩:∃ x,xs[k]? =some x:=⟨_,List.getElem?_eq_getElem hlt⟩;obtain⟨b,off,rfl,hcell⟩:=hc (by omega);obtain⟨c0,c1,c2,c3,c4⟩:=rv_cells hcell hxk;have put:∀ {O:Nat} {z:Value},w.cell? ⟨b,O,none⟩=some z->wr.cell? ⟨b,O,none⟩=some z:=fun h=>(hbel.cell (World.block_lt_of_cell? w _ h)).trans h
   replace c0:=put c0
   replace c1:=put c1
   replace c2:=put c2
   replace c3:=put c3
   replace c4:=put c4
   have hmem:=List.mem_of_getElem? hxk;have hone:=hs x hmem wr;have i1:(0:Int)<=(k:Int):=by omega
   have i2:(k:Int)<(xs.length:Int):=by omega
   cases hok:rcOK x with
   |true=>
    have HA2:Hid ((xs.take (k+1)).all rcOK=true):=by show _=_;rw [all_take' hxk,HA.out,hok];rfl
    rw [hok] at hone;clear hs hok hmem hxk hcell hc;obtain⟨o,ty,cl,tt,da⟩:=x;simp only at*
    go_wp2_with fail
    refine hone.mono ?_;rintro e w1 ⟨rfl,hb1⟩;go_wp2;go_roundw
    case rel=>exact⟨k+1,by omega,by go_num,HA2,Nm.below_two hbel hb1⟩
    case measure=>simp [intOf];omega
   |false=>
    have HF:=Nm.hide (all_no hmem hok);rw [hok] at hone;clear hs hok hmem hxk hcell hc;obtain⟨o,ty,cl,tt,da⟩:=x;simp only at*
    go_wp2_with fail
    refine hone.mono ?_;rintro e w1 ⟨rfl,hb1⟩;go_wp2;go_ret;exact⟨Nm.below_two hbel hb1,_,rfl,.inr ⟨HF.out,by omega⟩⟩
  ·have hkl:k=xs.length:=by omega
   subst hkl;have HT:=HA.out;rw [List.take_length] at HT;have HB:=Nm.hide HT;clear hs HT HA hc;have i2:¬(xs.length:Int)<(xs.length:Int):=by omega
   go_wp2;go_ret;exact⟨hbel,_,rfl,.inl ⟨by have:=HB.out;simpa using this,rfl⟩⟩
set_option maxRecDepth 100000 in
set_option maxHeartbeats 1600000 in
theorem validHas_any(v:Value)(xs:List Rr)(w:World)(h:CRow w v xs.length 5 (rvVs xs))(hx:∀ r∈xs,r.own.size<=1048576∧r.da.size<=1048576):
 Calls Tryz.prog 78 #[v,.func (.func 79) #[] #[]] w fun e w'=>e=.returned (.bool (!xs.all rcOK))∧Below w.heap.size w w':=by
 have hs:=validAt_any v xs w h hx;obtain⟨_,a,cap,rfl,_⟩:=h;generalize xs.all rcOK=B at*;go_enter Tryz.func78,Tryz.ntmps78;go_wp2_with fail
 refine hs.mono ?_;rintro e w1 ⟨hb1,i,rfl,⟨rfl,rfl⟩|⟨rfl,hi⟩⟩
 ·go_wp2;go_ret;exact⟨rfl,hb1⟩
 ·go_wp2;go_ret;exact⟨rfl,hb1⟩
theorem validRecords_any(v:Value)(xs:List Rr)(w:World)(h:CRow w v xs.length 5 (rvVs xs))(hx:∀ r∈xs,r.own.size<=1048576∧r.da.size<=1048576):
 Calls Tryz.prog 38 #[v] w fun e w'=>e=.returned (.bool (xs.all rcOK))∧Below w.heap.size w w':=by
 have hs:=validHas_any v xs w h hx;obtain⟨_,a,cap,rfl,hcap,hmx,_⟩:=h;generalize xs.all rcOK=B at*;go_enter Tryz.func38,Tryz.ntmps38;go_wp2_with fail
 refine hs.mono ?_;rintro e w1 ⟨rfl,hb1⟩;go_wp2;go_ret;exact⟨by simp,hb1⟩
end Go.Proofs.YtaceiajcecaapaaGreat
