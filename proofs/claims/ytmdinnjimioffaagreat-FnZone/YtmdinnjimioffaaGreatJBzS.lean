import Derived.Test.YtmdinnjimioffaaGreatJBzR
import Derived.BigQuiet
import Derived.RegionTactic
import Derived.Test.YtmdinnjimioffaaGreatJTrH
import Derived.Test.YtmdinnjimioffaaGreatJZbG
import Derived.Test.YtmdinnjimioffaaGreatJBzC
import Derived.Test.YtmdinnjimioffaaGreatZbT
import Derived.Test.YtmdinnjimioffaaGreatJTrM
import Derived.Test.YtmdinnjimioffaaGreatJTrP
import Derived.Test.YtmdinnjimioffaaGreatJOrdL
namespace Go.Proofs.YtmdinnjimioffaaGreat
open Go.RowKit
set_option linter.unusedVariables false
def soaR(f:Ld->Bool)(HB:Bool)(ls:List Ld):Value:=match ls.find? f with
 |some x=>.tuple #[.int .i64 20,.int .i64 (x.at_:Int)]
 |none=>if HB=true then .tuple #[.int .i64 0,.int .i64 0] else .tuple #[.int .i64 20,.int .i64 (-1)]
set_option maxRecDepth 100000 in
set_option maxHeartbeats 800000 in
theorem checkSOA_any(bb:Nat)(v:Value)(ls:List Ld)(f:Ld->Bool)(na:Option Addr)(nl nc:Nat)(HB:Bool)(w:World)(hk:w.cell? ⟨bb,5,none⟩=some v)(h:CRow w v ls.length 4 (ldVs ls))(hl:ls.length<=1000000)(hk3:w.cell? ⟨bb,3,none⟩=some (.slice na nl nc))
 (hf:∀ x∈ls,∀ cq W,Below w.heap.size w W->W.cell? ⟨cq,0,none⟩=some (.slice na nl nc)->Calls Tryz.prog 88 #[.agg #[.int .i64 (x.at_:Int),.int .i64 x.ty,.pointer (some ⟨x.ob,0,none⟩),.pointer (some ⟨x.sb,0,none⟩)],.pointer (some ⟨cq,0,none⟩)] W fun e w'=>e=.returned (.bool (f x))∧Below W.heap.size W w')
 (hh:∀ W,Below w.heap.size w W->Calls Tryz.prog 89 #[.pointer (some ⟨bb,3,none⟩),.slice na nl nc,.int .i64 6] W fun e w'=>e=.returned (.bool HB)∧Below W.heap.size W w'):
 Calls Tryz.prog 58 #[.pointer (some ⟨bb,0,none⟩)] w fun e w'=>e=.returned (soaR f HB ls)∧Below w.heap.size w w':=by
 have hB0:=(Below.refl w.heap.size w).alloc (Nat.le_refl _) (.cells #[.slice na nl nc] 67);have kb:=blk_new w #[.slice na nl nc] 67;have hw:=firstSOA_any bb w.heap.size 20 v ls f _ ((hB0.cell (p:=⟨bb,5,none⟩) (World.block_lt_of_cell? w _ hk)).trans hk) (h.below hB0) hl (fun x hx W hW=>hf x hx w.heap.size W (Nm.below_two hB0 hW) ((blk_cell (blk_below kb hW) 0).trans rfl));have HH:=Nm.hide hh;clear hf hh h hk;unfold soaR;unfold fstR at hw
 cases hx:ls.find? f with
 |some x=>
  rw [hx] at hw;simp only at hw ⊢
  clear hx;go_enter Tryz.func58,Tryz.ntmps58;go_wp2_with fail
  refine hw.mono ?_;rintro e w1 ⟨rfl,b1⟩;have hb1:=Nm.below_two hB0 b1;have k1:=(blk_cell (blk_below kb b1) 0).trans rfl;clear hw kb b1;go_wp2;go_region
  all_goals go_wp2
  all_goals go_ret2
  all_goals exact⟨rfl,hb1.drew⟩
 |none=>
  rw [hx] at hw;simp only at hw ⊢
  clear hx;go_enter Tryz.func58,Tryz.ntmps58;go_wp2_with fail
  refine hw.mono ?_;rintro e w1 ⟨rfl,b1⟩;have hb1:=Nm.below_two hB0 b1;have k1:=(blk_cell (blk_below kb b1) 0).trans rfl;have hd:=HH.out w1.drew hb1.drew;clear hw kb b1;go_wp2;go_region_with (go_at_call 89;refine hd.mono ?_;rintro e w2 ⟨rfl,b2⟩)
  all_goals (cases HB<;>(go_wp2;go_ret2;exact⟨rfl,Nm.below_two hb1 ((Below.refl _ w1).drew.trans b2)⟩))
set_option maxRecDepth 100000 in
set_option maxHeartbeats 800000 in
theorem checkNS_any(bb:Nat)(na:Option Addr)(nl nc:Nat)(HB:Bool)(w:World)(hk:w.cell? ⟨bb,3,none⟩=some (.slice na nl nc))
 (hh:∀ W,Below w.heap.size w W->Calls Tryz.prog 89 #[.pointer (some ⟨bb,3,none⟩),.slice na nl nc,.int .i64 2] W fun e w'=>e=.returned (.bool HB)∧Below W.heap.size W w'):
 Calls Tryz.prog 59 #[.pointer (some ⟨bb,0,none⟩)] w fun e w'=>e=.returned (if HB=true then .tuple #[.int .i64 0,.int .i64 0] else .tuple #[.int .i64 21,.int .i64 (-1)])∧Below w.heap.size w w':=by
 have kd:w.drew.cell? ⟨bb,3,none⟩=some (.slice na nl nc):=hk;have hd:=hh w.drew (Below.refl _ w).drew;clear hh;go_enter Tryz.func59,Tryz.ntmps59;go_wp2;go_region_with (go_at_call 89;refine hd.mono ?_;rintro e w1 ⟨rfl,b1⟩)
 all_goals (cases HB<;>(go_wp2;go_ret2;exact⟨rfl,Nm.below_two (Below.refl _ w).drew b1⟩))
set_option maxRecDepth 100000 in
set_option maxHeartbeats 800000 in
theorem single1_any(x:Ld)(tt hv:Value)(fi:Nat)(T:TypeId)(w:World)(hk:Blk w x.sb #[tt,.int .i64 (fi:Int),hv] T):
 Calls Tryz.prog 92 #[.agg #[.int .i64 (x.at_:Int),.int .i64 x.ty,.pointer (some ⟨x.ob,0,none⟩),.pointer (some ⟨x.sb,0,none⟩)]] w fun e w'=>e=.returned (.bool ((x.ty==5||x.ty==39)&&((x.at_:Int) != (fi:Int))))∧Below w.heap.size w w':=by
 have hB0:=(Below.refl w.heap.size w).alloc (Nat.le_refl _) (.cells #[.int .i64 (x.at_:Int),.int .i64 x.ty,.pointer (some ⟨x.ob,0,none⟩),.pointer (some ⟨x.sb,0,none⟩)] 129);have kb:=blk_new w #[.int .i64 (x.at_:Int),.int .i64 x.ty,.pointer (some ⟨x.ob,0,none⟩),.pointer (some ⟨x.sb,0,none⟩)] 129;have r0:=(blk_cell kb 0).trans rfl;have r1:=(blk_cell kb 1).trans rfl;have r3:=(blk_cell kb 3).trans rfl;have ko:=(blk_cell (blk_below hk hB0) 1).trans rfl;obtain⟨at_,ty,ob,sb⟩:=x;simp only at*
 clear hk kb;generalize hE:((at_:Int) != (fi:Int))=EQ at*;have HE:=Nm.hide hE
 by_cases h2:ty=5
 ·subst h2;have e2:((5:Int)==5)=true:=rfl;go_enter Tryz.func92,Tryz.ntmps92;go_wp2;go_quiet (fail)
  go_wp2;go_ret;exact⟨by simp,Go.below_drewN hB0 _⟩
 ·have e2:(ty==5)=false:=by simpa using h2
  by_cases h3:ty=39
  ·subst h3;go_enter Tryz.func92,Tryz.ntmps92;go_wp2;go_quiet (fail)
   go_wp2;go_ret;exact⟨by simp,Go.below_drewN hB0 _⟩
  ·have e3:(ty==39)=false:=by simpa using h3
   go_enter Tryz.func92,Tryz.ntmps92;go_wp2;go_quiet (fail)
   go_wp2;go_ret;exact⟨by simp [e2,e3],Go.below_drewN hB0 _⟩
set_option maxRecDepth 100000 in
set_option maxHeartbeats 800000 in
theorem soa1_any(x:Ld)(cq:Nat)(tt hv nm ov:Value)(fi:Nat)(T To:TypeId)(la:Option Addr)(ln lc:Nat)(aa:Option Addr)(an ac:Nat)(w:World)(hk:Blk w x.sb #[tt,.int .i64 (fi:Int),hv] T)(ho:Blk w x.ob #[nm,.slice la ln lc,ov] To)(hq:w.cell? ⟨cq,0,none⟩=some (.slice aa an ac)):
 Calls Tryz.prog 88 #[.agg #[.int .i64 (x.at_:Int),.int .i64 x.ty,.pointer (some ⟨x.ob,0,none⟩),.pointer (some ⟨x.sb,0,none⟩)],.pointer (some ⟨cq,0,none⟩)] w fun e w'=>e=.returned (.bool (x.ty==6&&(decide (an<ln)||((x.at_:Int) != (fi:Int)))))∧Below w.heap.size w w':=by
 have hB0:=(Below.refl w.heap.size w).alloc (Nat.le_refl _) (.cells #[.int .i64 (x.at_:Int),.int .i64 x.ty,.pointer (some ⟨x.ob,0,none⟩),.pointer (some ⟨x.sb,0,none⟩)] 129);have kb:=blk_new w #[.int .i64 (x.at_:Int),.int .i64 x.ty,.pointer (some ⟨x.ob,0,none⟩),.pointer (some ⟨x.sb,0,none⟩)] 129;have r0:=(blk_cell kb 0).trans rfl;have r1:=(blk_cell kb 1).trans rfl;have r2:=(blk_cell kb 2).trans rfl;have r3:=(blk_cell kb 3).trans rfl;have ko:=(blk_cell (blk_below hk hB0) 1).trans rfl;have kp:=(blk_cell (blk_below ho hB0) 1).trans rfl;have kq:=(hB0.cell (p:=⟨cq,0,none⟩) (World.block_lt_of_cell? w _ hq)).trans hq;obtain⟨at_,ty,ob,sb⟩:=x;simp only at*
 clear hk kb ho hq;generalize hE:((at_:Int) != (fi:Int))=EQ at*;have HE:=Nm.hide hE
 by_cases h2:ty=6
 ·subst h2;have e2:((6:Int)==6)=true:=rfl
  by_cases h3:an<ln
  ·have e3:(an:Int)<(ln:Int):=by omega
   go_enter Tryz.func88,Tryz.ntmps88;go_wp2;go_quiet (fail)
   go_wp2;go_ret;exact⟨by simp [h3],Go.below_drewN hB0 _⟩
  ·have e3:¬(an:Int)<(ln:Int):=by omega
   go_enter Tryz.func88,Tryz.ntmps88;go_wp2;go_quiet (fail)
   go_wp2;go_ret;exact⟨by simp [h3],Go.below_drewN hB0 _⟩
 ·have e2:(ty==6)=false:=by simpa using h2
  go_enter Tryz.func88,Tryz.ntmps88;go_wp2;go_quiet (fail)
  go_wp2;go_ret;exact⟨by simp [e2],Go.below_drewN hB0 _⟩
set_option maxRecDepth 100000 in
set_option maxHeartbeats 1600000 in
theorem firstBelow_any(bb:Nat)(cq:Nat)(code:Int)(v:Value)(ls:List Ld)(f:Ld->Bool)(w:World)(hk:w.cell? ⟨bb,5,none⟩=some v)(h:CRow w v ls.length 4 (ldVs ls))(hl:ls.length<=1000000)
 (hf:∀ x∈ls,∀ W,Below w.heap.size w W->Calls Tryz.prog 96 #[.agg #[.int .i64 (x.at_:Int),.int .i64 x.ty,.pointer (some ⟨x.ob,0,none⟩),.pointer (some ⟨x.sb,0,none⟩)],.pointer (some ⟨cq,0,none⟩)] W fun e w'=>e=.returned (.bool (f x))∧Below W.heap.size W w'):
 Calls Tryz.prog 87 #[.pointer (some ⟨bb,0,none⟩),.int .i64 code,.func (.func 96) #[] #[.pointer (some ⟨cq,0,none⟩)]] w fun e w'=>e=.returned (fstR f code ls)∧Below w.heap.size w w':=by
 obtain⟨_,a,cap,rfl,hcap,hmx,hc⟩:=h;unfold maxLen at hmx;have HF:=Nm.hide hf;clear hf;go_enter Tryz.func87,Tryz.ntmps87;go_wp2
 go_loopw [15] (fun i wr=>∃ k:Nat,k<=ls.length∧i=.int .i64 k∧(∀ j x,j<k->ls[j]? =some x->f x=false)∧Below w.heap.size w wr) (fun i _=>ls.length-(intOf i).toNat)
 case atStart=>exact⟨0,Nat.zero_le _,rfl,fun j x hj=>absurd hj (Nat.not_lt_zero _),Below.refl _ _⟩
 case round=>
  obtain⟨k,hk',rfl,hno,hbel⟩:=hrel;have HR:=Nm.hide (And.intro hno hbel)
  by_cases hlt:k<ls.length
  ·obtain⟨x,hx⟩:∃ x,ls[k]? =some x:=⟨_,List.getElem?_eq_getElem hlt⟩;obtain⟨b,off,rfl,hcell⟩:=hc (by omega);have put:∀ {O:Nat} {z:Value},w.cell? ⟨b,O,none⟩=some z->wr.cell? ⟨b,O,none⟩=some z:=fun h=>(hbel.cell (World.block_lt_of_cell? w _ h)).trans h
   have d0:=put (hcell (k*4) _ (ld_at ls k 0 x hx (by decide)));have d1:=put (hcell (k*4+1) _ (ld_at ls k 1 x hx (by decide)));have d2:=put (hcell (k*4+2) _ (ld_at ls k 2 x hx (by decide)));have d3:=put (hcell (k*4+3) _ (ld_at ls k 3 x hx (by decide)));simp only [<- Nat.add_assoc] at d1 d2 d3;have hfx:=HF.out x (List.mem_of_getElem? hx) (wr.alloc (.cells #[.int .i64 (x.at_:Int),.int .i64 x.ty,.pointer (some ⟨x.ob,0,none⟩),.pointer (some ⟨x.sb,0,none⟩)] 129)) (hbel.alloc hbel.size _);have kb:=blk_new wr #[.int .i64 (x.at_:Int),.int .i64 x.ty,.pointer (some ⟨x.ob,0,none⟩),.pointer (some ⟨x.sb,0,none⟩)] 129;have hb1:=hbel.alloc hbel.size (.cells #[.int .i64 (x.at_:Int),.int .i64 x.ty,.pointer (some ⟨x.ob,0,none⟩),.pointer (some ⟨x.sb,0,none⟩)] 129);have HX:=Nm.hide hx;have i1:(0:Int)<=(k:Int):=by omega
   have i2:(k:Int)<(ls.length:Int):=by omega
   clear hc hcell hx hno hbel put hk;simp only [World.size_alloc] at hfx;go_wp2_with fail
   refine hfx.mono ?_;rintro e w2 ⟨rfl,b2⟩;have kb2:=blk_below kb (by simpa using b2);have rb2:=fun i=>blk_cell kb2 i
   have hB2:=Nm.below_two hb1 (by simpa using b2);clear hfx d0 d1 d2 d3
   cases hfv:f x with
   |true=>
    have HV:=Nm.hide hfv;clear hfv;go_wp2;go_region
    all_goals go_wp2
    all_goals go_ret2
    all_goals exact⟨by rw [fst_at HR.out.1 HX.out HV.out];rfl,hB2.drew⟩
   |false=>
    have HV:=Nm.hide hfv;clear hfv;go_wp2;go_roundw
    case rel=>
     refine⟨k+1,by omega,by go_num,fun j y hj hy=>?_,hB2⟩
     rcases Nat.lt_succ_iff_lt_or_eq.1 hj with h1|rfl
     ·exact HR.out.1 j y h1 hy
     ·rw [HX.out] at hy;cases hy;exact HV.out
    case measure=>simp [intOf];omega
  ·have hke:k=ls.length:=by omega
   subst hke;clear hc hno hbel;go_wp2;go_ret2;exact⟨by rw [fst_no HR.out.1];rfl,HR.out.2⟩
def loopsZ:Code->List Code
 |.loop c=>[c]
 |.seq a b=>loopsZ a++loopsZ b
 |.block _ c=>loopsZ c
 |.scope c=>loopsZ c
 |.cond _ a b=>loopsZ a++loopsZ b
 |_=>[]
noncomputable def bzTop:List Code:=((Tryz.f5).body.map loopsZ).getD []
noncomputable def bzL3:Code:=(bzTop[2]?).getD .skip
def sndZ:Code->Code
 |.seq _ b=>b
 |c=>c
def fstZ:Code->Code
 |.seq a _=>a
 |c=>c
def inZ:Code->Code
 |.block _ c=>c
 |.cond _ a _=>a
 |c=>c
noncomputable def bzB:Code:=sndZ (inZ (fstZ (sndZ bzL3)))
noncomputable def bzM:Code:=sndZ (sndZ bzB)
noncomputable def bzN:Code:=inZ (sndZ (fstZ bzB))
theorem wrap64_sm{n:Nat}(h:n<=1000000):wrap64 (n:Int)=(n:Int):=by unfold wrap64;omega
theorem gen_worldZ{Pr G:World->Prop}{W:World}(h:Pr W)(k:∀ W,Pr W->G W):G W:=k W h
theorem Tryz.infoSetZ:(Tryz.prog.info? 65).map (fun i=>(i.zero,i.size,i.bytes))=some (some (.agg #[.string ByteArray.empty,.int .i64 0,.int .i64 0,.slice none 0 0]),4,56):=by kernel_rfl
theorem own_nbZ{W:World}{B e s n b:Nat}{v:Value}{xs:List Value}{cs:Array Value}{T:TypeId}(h:W.ownsRow B e s v n xs)(hb:Blk W b cs T)(hne:e≠T):v.ownBlock≠some b:=by
 intro he
 rcases h.2 with⟨rfl,_⟩|⟨g,cap,cur,rfl,_,hh,_⟩
 ·cases he
 ·simp only [Value.ownBlock,Option.some.injEq] at he;subst he;rw [Blk,hh] at hb;simp only [Option.some.injEq,Obj.cells.injEq] at hb;exact hne hb.2.1
set_option maxRecDepth 1000000 in
set_option maxHeartbeats 16000000 in
theorem zone_more(apex da:ByteArray)(zb rb:Nat)(vs2:Value)(ps0:List Zp)(s:Sz)(ux:Option Addr)(uc:Nat)(r0 r1 r2 r3:Value)(hpl0:ps0.length<=500)(hsl:s.da.length<=500)(Q0:Exit->Act->World->Prop)(wz:World)
 (kz2:Blk wz zb #[.string apex,vs2] 28) (kr2:Blk wz rb #[r0,r1,r2,r3,.string da] 33) (hZ2:ZOwn wz (zb+1) vs2 (ps0++[(s,.slice ux s.da.length uc)]))
 (s0 s1 s2 s3 s4 s5 s6 s7 s8 s9 s10 s11 s12 s13 s14 s16 s19 s20 s21 s22 s23 s24 s25 s26 s27 s28 s29 s30 s31 s32 s33 s34 s35 s36 s37 s38 s39 s40 s41 s42 s43 s44 s45 s46 s47 s48 s49 s50 s51 s52 s53 s54 s55 s56 s57 s58 s59 s60 s61 s62 s63 s64 s65 s66 s67 s68 s69 s70 s71 s72 s73 s74 s75 s76 s77 s78 s79 s80 s81 s82 s83 s84 s85 s86 s87 s88 s89 s90 s91 s92 s93 s94 s95 s96 s97 s98 s99 s100 s101 s102 s103 s104 s105 s106 s107 s108 s109 s110 s111 s112 s113 s114 s115 s116 s117 s118 s119 s120 s121 s122 s123 s124 s125 s126 s127 s128 s129 s130 s131 s132 s133 s134 s135 s136 s137 s138 s139 s140 s141 s142 s143 s144 s145 s146 s147 s148 s149 s150 s151 s152 s153 s154 s155 s156 s157 s158 s159 s160 s161 s162 s163 s164 s165 s166 s167 s168 s169 s170 s171 s172 s173 s174 s175 s176 s177 s178 s179 s180 s181 s182 s183 s184 s185 s186:Value)
 (hexit:∀ (u171 u172 u173 u174 u175 u176 u177 u178 u179 u180 u181 u182 u183 u184 u185:Value) (w':World),(∃ u',Blk w' zb #[.string apex,vs2] 28∧ZOwn w' (zb+1) vs2 (ps0++[(({s with da:=s.da++[da]}:Sz),u')])∧Below (zb+1) wz w')->Q0 .normal ⟨(s0::s1::s2::s3::s4::s5::s6::s7::s8::s9::s10::s11::s12::s13::s14::.pointer (some ⟨zb,0,none⟩)::s16::.pointer (some ⟨rb,0,none⟩)::.int .i64 (ps0.length:Int)::s19::s20::s21::s22::s23::s24::s25::s26::s27::s28::s29::s30::s31::s32::s33::s34::s35::s36::s37::s38::s39::s40::s41::s42::s43::s44::s45::s46::s47::s48::s49::s50::s51::s52::s53::s54::s55::s56::s57::s58::s59::s60::s61::s62::s63::s64::s65::s66::s67::s68::s69::s70::s71::s72::s73::s74::s75::s76::s77::s78::s79::s80::s81::s82::s83::s84::s85::s86::s87::s88::s89::s90::s91::s92::s93::s94::s95::s96::s97::s98::s99::s100::s101::s102::s103::s104::s105::s106::s107::s108::s109::s110::s111::s112::s113::s114::s115::s116::s117::s118::s119::s120::s121::s122::s123::s124::s125::s126::s127::s128::s129::s130::s131::s132::s133::s134::s135::s136::s137::s138::s139::s140::s141::s142::s143::s144::s145::s146::s147::s148::s149::s150::s151::s152::s153::s154::s155::s156::s157::s158::s159::s160::s161::s162::s163::s164::s165::s166::s167::s168::s169::s170::u171::u172::u173::u174::u175::u176::u177::u178::u179::u180::u181::u182::u183::u184::u185::s186::[]).toArray,[]⟩ w'):
 Code.wp Tryz.prog bzM Q0 ⟨(s0::s1::s2::s3::s4::s5::s6::s7::s8::s9::s10::s11::s12::s13::s14::.pointer (some ⟨zb,0,none⟩)::s16::.pointer (some ⟨rb,0,none⟩)::.int .i64 (ps0.length:Int)::s19::s20::s21::s22::s23::s24::s25::s26::s27::s28::s29::s30::s31::s32::s33::s34::s35::s36::s37::s38::s39::s40::s41::s42::s43::s44::s45::s46::s47::s48::s49::s50::s51::s52::s53::s54::s55::s56::s57::s58::s59::s60::s61::s62::s63::s64::s65::s66::s67::s68::s69::s70::s71::s72::s73::s74::s75::s76::s77::s78::s79::s80::s81::s82::s83::s84::s85::s86::s87::s88::s89::s90::s91::s92::s93::s94::s95::s96::s97::s98::s99::s100::s101::s102::s103::s104::s105::s106::s107::s108::s109::s110::s111::s112::s113::s114::s115::s116::s117::s118::s119::s120::s121::s122::s123::s124::s125::s126::s127::s128::s129::s130::s131::s132::s133::s134::s135::s136::s137::s138::s139::s140::s141::s142::s143::s144::s145::s146::s147::s148::s149::s150::s151::s152::s153::s154::s155::s156::s157::s158::s159::s160::s161::s162::s163::s164::s165::s166::s167::s168::s169::s170::s171::s172::s173::s174::s175::s176::s177::s178::s179::s180::s181::s182::s183::s184::s185::s186::[]).toArray,[]⟩ wz:=by
 obtain⟨s0,hs,hx0,hx1,hx2⟩:=info_parts Tryz.infoStr
 obtain⟨g,gc,rfl⟩:∃ g gc,vs2=.slice (some ⟨g,0,none⟩) (ps0.length+1) gc:=by
  rcases hZ2.outer.2 with⟨_,h0⟩|⟨g,gc,cur,e,_⟩
  ·simp at h0
  ·exact⟨g,gc,by rw [e];simp⟩
 have hlast:(ps0++[(s,Value.slice ux s.da.length uc)])[ps0.length]? =some (s,Value.slice ux s.da.length uc):=by simp
 have hin:wz.ownsRow (zb+1) 9 1 (.slice ux s.da.length uc) s.da.length (s.da.map Value.string):=hZ2.inner _ _ hlast;have hou:=hZ2.outer;rw [List.length_append,List.length_singleton] at hou;have hcu:wz.cell? ⟨g,ps0.length*4+3,none⟩=some (.slice ux s.da.length uc):=(hou.cellAt (ps0.length*4+3) (by omega)).trans ((zpVs_at _ _ 3 _ hlast (by decide)).trans rfl);have hfu:=hou.frozenAt (ps0.length*4+3);have rz2:=fun i=>blk_cell kz2 i
 have rr2:=fun i=>blk_cell kr2 i
 have hpl:ps0.length<=500:=by
  exact hpl0
 have hwp:=wrap64_sm (n:=ps0.length) (Nat.le_trans hpl (by decide));have m1:(0:Int)<=(ps0.length:Int):=Int.natCast_nonneg _;have m2:(ps0.length:Int)<(ps0.length:Int)+1:=Int.lt_add_one_of_le (Int.le_refl _);have hlz:=blk_lt kz2
 conv=>arg 2;whnf
 refine wp_region_noPanic ?_;refine wp_region_last (fun W=>W.cell? ⟨zb,1,none⟩=some (.slice (some ⟨g,0,none⟩) (ps0.length+1) gc)∧W.cell? ⟨g,ps0.length*4+3,none⟩=some (.slice ux s.da.length uc)∧W.cell? ⟨rb,4,none⟩=some (.string da)∧True) 15 (by kernel_rfl) ⟨rz2 1,hcu,rr2 4,trivial⟩ (fun hHeld=>?_);refine tkL (i:=0) (v:=?_) rfl ?_ ?_;rotate_left 1
 ·(intro W hSW;obtain⟨z0,z1,z2,z3⟩:=hSW;go_simp;try (with_reducible rfl))
 refine tkL (i:=1) (v:=?_) rfl ?_ ?_;rotate_left 1
 ·(intro W hSW;obtain⟨z0,z1,z2,z3⟩:=hSW;go_simp;try (with_reducible rfl))
 refine tkL (i:=2) (v:=?_) rfl ?_ ?_;rotate_left 1
 ·(intro W hSW;obtain⟨z0,z1,z2,z3⟩:=hSW;go_simp;try (with_reducible rfl))
 refine tkL (i:=3) (v:=?_) rfl ?_ ?_;rotate_left 1
 ·(intro W hSW;obtain⟨z0,z1,z2,z3⟩:=hSW;go_simp;try (with_reducible rfl))
 refine tkL (i:=4) (v:=?_) rfl ?_ ?_;rotate_left 1
 ·(intro W hSW;obtain⟨z0,z1,z2,z3⟩:=hSW;go_simp;try (with_reducible rfl))
 refine tkL (i:=5) (v:=?_) rfl ?_ ?_;rotate_left 1
 ·(intro W hSW;obtain⟨z0,z1,z2,z3⟩:=hSW;go_simp;try (with_reducible rfl))
 refine tkL (i:=6) (v:=?_) rfl ?_ ?_;rotate_left 1
 ·(intro W hSW;obtain⟨z0,z1,z2,z3⟩:=hSW;go_simp;try (with_reducible rfl))
 refine tkL (i:=7) (v:=?_) rfl ?_ ?_;rotate_left 1
 ·(intro W hSW;obtain⟨z0,z1,z2,z3⟩:=hSW;go_simp;try (with_reducible rfl))
 refine tkL (i:=8) (v:=?_) rfl ?_ ?_;rotate_left 1
 ·(intro W hSW;obtain⟨z0,z1,z2,z3⟩:=hSW;go_simp;try (with_reducible rfl))
 refine tkL (i:=9) (v:=?_) rfl ?_ ?_;rotate_left 1
 ·(intro W hSW;obtain⟨z0,z1,z2,z3⟩:=hSW;go_simp;try (with_reducible rfl))
 refine tkL (i:=10) (v:=?_) rfl ?_ ?_;rotate_left 1
 ·(intro W hSW;obtain⟨z0,z1,z2,z3⟩:=hSW;go_simp;try (with_reducible rfl))
 refine wpAnyL_one (i:=11) (by kernel_rfl) rfl (fun K hK=>?_);go_simp;refine hK.out _ _ ⟨(blk_cell (blk_below kz2 ((Below.refl _ _).drew.alloc (Nat.le_refl _) _)) 1),((((Below.refl _ _).drew.alloc (Nat.le_refl _) _).cell (World.block_lt_of_cell? wz _ hcu)).trans hcu),(blk_cell (blk_below kr2 ((Below.refl _ _).drew.alloc (Nat.le_refl _) _)) 4),trivial⟩ (fun _=>?_);clear hK K;refine wpAnyL_one (i:=12) (by kernel_rfl) rfl (fun K hK=>?_);refine step_append_own_at rfl (.tmp 179) (.tmp 182) 51 rfl (zb+1) 9 s0 _ 1 16 Tryz.underlying51 hs hx0 hx1 hx2 rfl (by decide) _ _ _ (by rfl) (own_below hin ((Below.refl _ _).drew.alloc (Nat.le_refl _) _)) ⟨wz.heap.size,0,none⟩ 1 1 [.string da] (by rfl) rfl (cell_newV _ _ _) (by intro u hu;simp at hu;rcases hu with rfl;rfl) (by unfold maxLen;omega) (by omega) (by simp;omega) ?_;intro va wa ho9 hg9 hnl9 hat9;have hbz:Below wz.heap.size wz (wz.drew.alloc (.cells #[.string da] 9)):=(Below.refl _ _).drew.alloc (Nat.le_refl _) _;have hZ3:=(hZ2.below hbz).more ho9 hg9 (by rcases hat9 with h|h;exact .inl h;right;intro g' e;rw [h] at e;simp at e;simp;omega);have kz3:=blk_grown (blk_below kz2 hbz) hg9 (own_nbZ (own_below hin hbz) (blk_below kz2 hbz) (by decide));have kr3:=blk_grown (blk_below kr2 hbz) hg9 (own_nbZ (own_below hin hbz) (blk_below kr2 hbz) (by decide));have hou3:=own_besideZ (own_below hou hbz) hg9 (own_kindsZ (own_below hou hbz) (own_below hin hbz) (by decide));have hcu3:wa.cell? ⟨g,ps0.length*4+3,none⟩=some (.slice ux s.da.length uc):=(hou3.cellAt (ps0.length*4+3) (by omega)).trans ((zpVs_at _ _ 3 _ hlast (by decide)).trans rfl);have hfu3:=hou3.frozenAt (ps0.length*4+3);have hgB:=(hou3.lt g rfl).1;have hb3:Below (zb+1) wz wa:=(hbz.mono (by omega)).grown hg9 (by simp;omega) (fun g hg=>(hin.lt g hg).1);have hgz:=own_nbZ hou3 kz3 (by decide);obtain⟨xa,xc,rfl⟩:=own_sl ho9;have kz4:Blk (wa.setCell ⟨g,ps0.length*4+3,none⟩ (.slice xa (s.da.length+1) xc)) zb #[.string apex,.slice (some ⟨g,0,none⟩) (ps0.length+1) gc] 28:=blk_far kz3 (fun e=>hgz (by rw [e];rfl));refine hK.out _ _ ⟨(blk_cell kz3 1),hcu3,(blk_cell kr3 4),trivial⟩ (fun _=>?_);clear hK K;refine wpAnyL_one (i:=13) (by kernel_rfl) rfl (fun K hK=>?_);go_simp;refine hK.out _ _ ⟨(blk_cell kz3 1),hcu3,(blk_cell kr3 4),trivial⟩ (fun _=>?_);clear hK K;refine tkL (i:=14) (v:=?_) rfl ?_ ?_;rotate_left 1
 ·(intro W hSW;obtain⟨z0,z1,z2,z3⟩:=hSW;go_simp;try (with_reducible rfl))
 refine wpAnyL_end (by kernel_rfl) rfl (by kernel_rfl) (fun K hK=>?_);go_simp;refine hK.out _ _ (NoPanic.normal ?_);clear hK K hat9 hnl9 hg9 ho9 kr3 kz3 hou3 hou hin;have HF:=Nm.hide (And.intro kz4 (And.intro hZ3 (hb3.setCell (p:=⟨g,ps0.length*4+3,none⟩) hgB (.slice xa (s.da.length+1) xc))));clear kz4 hZ3 hb3
 first
  |exact⟨_,HF.out.1,HF.out.2.1,HF.out.2.2⟩
  |(refine hexit _ _ _ _ _ _ _ _ _ _ _ _ _ _ _ _ ?_;exact⟨_,HF.out.1,HF.out.2.1,HF.out.2.2⟩)
end Go.Proofs.YtmdinnjimioffaaGreat
