import Derived.Test.YtaceiajcecaapaaGreatJBzFSOA
import Derived.BigQuiet
import Derived.RegionTactic
import Derived.Test.YtaceiajcecaapaaGreatJBzFBelow
namespace Go.Proofs.YtaceiajcecaapaaGreat
open Go.RowKit
set_option linter.unusedVariables false
def soaR(f:Ld->Bool)(HB:Bool)(ls:List Ld):Value:=match ls.find? f with
 |some x=>.tuple #[.int .i64 20,.int .i64 (x.at_:Int)]
 |none=>if HB=true then .tuple #[.int .i64 0,.int .i64 0] else .tuple #[.int .i64 20,.int .i64 (-1)]
set_option maxRecDepth 100000 in
set_option maxHeartbeats 800000 in
theorem checkSOA_any(bb:Nat)(v:Value)(ls:List Ld)(f:Ld->Bool)(na:Option Addr)(nl nc:Nat)(HB:Bool)(w:World)(hk:w.cell? ⟨bb,5,none⟩=some v)(h:CRow w v ls.length 4 (ldVs ls))(hl:ls.length<=1000000)(hk3:w.cell? ⟨bb,3,none⟩=some (.slice na nl nc))
 (hf:∀ x∈ls,∀ cq W,Below w.heap.size w W->W.cell? ⟨cq,0,none⟩=some (.slice na nl nc)->Calls Tryz.prog 108 #[.agg #[.int .i64 (x.at_:Int),.int .i64 x.ty,.pointer (some ⟨x.ob,0,none⟩),.pointer (some ⟨x.sb,0,none⟩)],.pointer (some ⟨cq,0,none⟩)] W fun e w'=>e=.returned (.bool (f x))∧Below W.heap.size W w')
 (hh:∀ W,Below w.heap.size w W->Calls Tryz.prog 109 #[.pointer (some ⟨bb,3,none⟩),.slice na nl nc,.int .i64 6] W fun e w'=>e=.returned (.bool HB)∧Below W.heap.size W w'):
 Calls Tryz.prog 67 #[.pointer (some ⟨bb,0,none⟩)] w fun e w'=>e=.returned (soaR f HB ls)∧Below w.heap.size w w':=by
 have hB0:=(Below.refl w.heap.size w).alloc (Nat.le_refl _) (.cells #[.slice na nl nc] 68);have kb:=blk_new w #[.slice na nl nc] 68;have hw:=firstSOA_any bb w.heap.size 20 v ls f _ ((hB0.cell (p:=⟨bb,5,none⟩) (World.block_lt_of_cell? w _ hk)).trans hk) (h.below hB0) hl (fun x hx W hW=>hf x hx w.heap.size W (Nm.below_two hB0 hW) ((blk_cell (blk_below kb hW) 0).trans rfl));have HH:=Nm.hide hh;clear hf hh h hk;unfold soaR;unfold fstR at hw
 cases hx:ls.find? f with
 |some x=>
  rw [hx] at hw;simp only at hw ⊢
  clear hx;go_enter Tryz.func67,Tryz.ntmps67;go_wp2_with fail
  refine hw.mono ?_;rintro e w1 ⟨rfl,b1⟩;have hb1:=Nm.below_two hB0 b1;have k1:=(blk_cell (blk_below kb b1) 0).trans rfl;clear hw kb b1;go_wp2;go_region
  all_goals go_wp2
  all_goals go_ret2
  all_goals exact⟨rfl,hb1.drew⟩
 |none=>
  rw [hx] at hw;simp only at hw ⊢
  clear hx;go_enter Tryz.func67,Tryz.ntmps67;go_wp2_with fail
  refine hw.mono ?_;rintro e w1 ⟨rfl,b1⟩;have hb1:=Nm.below_two hB0 b1;have k1:=(blk_cell (blk_below kb b1) 0).trans rfl;have hd:=HH.out w1.drew hb1.drew;clear hw kb b1;go_wp2;go_region_with (go_at_call 109;refine hd.mono ?_;rintro e w2 ⟨rfl,b2⟩)
  all_goals (cases HB<;>(go_wp2;go_ret2;exact⟨rfl,Nm.below_two hb1 ((Below.refl _ w1).drew.trans b2)⟩))
set_option maxRecDepth 1000000 in
set_option maxHeartbeats 16000000 in
theorem zone_new(its:List It)(apex fo:ByteArray)(ty tt:Int)(zb rb b off k m n lc uc:Nat)(la va:Option Addr)(vc:Nat)(ps:List Zp)(r0 r2 r4:Value)(hpl:ps.length<=500)(hn:n<=500)(HITL:Hid (its.length=n))(hkm:k<m)(hm:m<=500)(hbz:b<zb)(Q0:Exit->Act->World->Prop)(wz:World)
 (kz2:Blk wz zb #[.string apex,.slice va ps.length vc] 32) (kr2:Blk wz rb #[r0,.int .i64 ty,r2,.int .i64 tt,r4] 47) (hrz:rb≠zb) (hZ2:ZOwn wz (zb+1) (.slice va ps.length vc) ps)
 (hits:CRow wz (.slice la n lc) n 8 (itCs its)) (hfo:wz.cell? ⟨b,off+k*8+5,none⟩=some (.string fo))
 (s0 s1 s2 s3 s4 s5 s6 s8 s9 s10 s11 s12 s14 s18 s19 s20 s21 s22 s23 s24 s25 s26 s27 s28 s29 s30 s31 s32 s33 s34 s35 s36 s37 s38 s39 s40 s41 s42 s43 s44 s45 s46 s47 s48 s49 s50 s51 s52 s53 s54 s55 s56 s57 s58 s59 s60 s61 s62 s63 s64 s65 s66 s67 s68 s69 s70 s71 s72 s73 s74 s75 s76 s77 s78 s79 s80 s81 s82 s83 s84 s85 s86 s87 s88 s89 s90 s91 s92 s93 s94 s95 s96 s97 s98 s99 s100 s101 s102 s103 s104 s105 s106 s107 s108 s109 s110 s111 s112 s113 s114 s115 s116 s117 s118 s119 s120 s121 s122 s123 s124 s125 s126 s127 s128 s129 s130 s131 s132 s133 s134 s135 s136 s137 s138 s139 s140 s141 s142 s143 s144 s145 s146 s147 s148 s149 s150 s151 s152 s153 s154 s155 s156 s157 s158 s159 s160 s161 s162 s163 s164 s165 s166 s167 s168 s169 s170 s171 s172 s173 s174 s175 s176 s177 s178 s179 s180 s181 s182 s183 s184 s185 s186:Value)
 (hexit:∀ (u150 u151 u152 u153 u154 u155 u156 u157 u158 u159 u160 u161 u162 u163 u164 u165 u166:Value) (w':World),(∃ vs',Blk w' zb #[.string apex,vs'] 32∧Blk w' rb #[r0,.int .i64 ty,r2,.int .i64 tt,r4] 47∧ZOwn w' (zb+1) vs' (ps++[((⟨ownI its fo,ty,tt,[]⟩:Sz),.slice none 0 0)])∧Below zb wz w')->Q0 .normal ⟨(s0::s1::s2::s3::s4::s5::s6::.slice la n lc::s8::s9::s10::s11::s12::.slice (some ⟨b,off,none⟩) m uc::s14::.pointer (some ⟨zb,0,none⟩)::.int .i64 (k:Int)::.pointer (some ⟨rb,0,none⟩)::s18::s19::s20::s21::s22::s23::s24::s25::s26::s27::s28::s29::s30::s31::s32::s33::s34::s35::s36::s37::s38::s39::s40::s41::s42::s43::s44::s45::s46::s47::s48::s49::s50::s51::s52::s53::s54::s55::s56::s57::s58::s59::s60::s61::s62::s63::s64::s65::s66::s67::s68::s69::s70::s71::s72::s73::s74::s75::s76::s77::s78::s79::s80::s81::s82::s83::s84::s85::s86::s87::s88::s89::s90::s91::s92::s93::s94::s95::s96::s97::s98::s99::s100::s101::s102::s103::s104::s105::s106::s107::s108::s109::s110::s111::s112::s113::s114::s115::s116::s117::s118::s119::s120::s121::s122::s123::s124::s125::s126::s127::s128::s129::s130::s131::s132::s133::s134::s135::s136::s137::s138::s139::s140::s141::s142::s143::s144::s145::s146::s147::s148::s149::u150::u151::u152::u153::u154::u155::u156::u157::u158::u159::u160::u161::u162::u163::u164::u165::u166::s167::s168::s169::s170::s171::s172::s173::s174::s175::s176::s177::s178::s179::s180::s181::s182::s183::s184::s185::s186::[]).toArray,[]⟩ w'):
 Code.wp Tryz.prog bzN Q0 ⟨(s0::s1::s2::s3::s4::s5::s6::.slice la n lc::s8::s9::s10::s11::s12::.slice (some ⟨b,off,none⟩) m uc::s14::.pointer (some ⟨zb,0,none⟩)::.int .i64 (k:Int)::.pointer (some ⟨rb,0,none⟩)::s18::s19::s20::s21::s22::s23::s24::s25::s26::s27::s28::s29::s30::s31::s32::s33::s34::s35::s36::s37::s38::s39::s40::s41::s42::s43::s44::s45::s46::s47::s48::s49::s50::s51::s52::s53::s54::s55::s56::s57::s58::s59::s60::s61::s62::s63::s64::s65::s66::s67::s68::s69::s70::s71::s72::s73::s74::s75::s76::s77::s78::s79::s80::s81::s82::s83::s84::s85::s86::s87::s88::s89::s90::s91::s92::s93::s94::s95::s96::s97::s98::s99::s100::s101::s102::s103::s104::s105::s106::s107::s108::s109::s110::s111::s112::s113::s114::s115::s116::s117::s118::s119::s120::s121::s122::s123::s124::s125::s126::s127::s128::s129::s130::s131::s132::s133::s134::s135::s136::s137::s138::s139::s140::s141::s142::s143::s144::s145::s146::s147::s148::s149::s150::s151::s152::s153::s154::s155::s156::s157::s158::s159::s160::s161::s162::s163::s164::s165::s166::s167::s168::s169::s170::s171::s172::s173::s174::s175::s176::s177::s178::s179::s180::s181::s182::s183::s184::s185::s186::[]).toArray,[]⟩ wz:=by
 obtain⟨j0,hj,hy0,hy1,hy2⟩:=info_parts Tryz.infoSetZ;have hown:=fun W (hW:Below wz.heap.size wz W)=>l06Owner_any (.slice la n lc) its fo W (by rw [HITL.out];exact hits.below hW) (by rw [HITL.out];omega)
 have n1:(0:Int)<=(k:Int):=by omega
 have n2:(k:Int)<(m:Int):=by omega
 have hlz:=blk_lt kz2;have rz2:=fun i=>blk_cell kz2 i
 have rr2:=fun i=>blk_cell kr2 i
 have hwk:IntKind.i64.wrap (k:Int)=(k:Int):=Go.wrap_small _ (by omega) (by omega)
 conv=>arg 2;whnf
 refine wp_region_noPanic ?_;refine wp_region_last (fun W=>W.cell? ⟨zb,1,none⟩=some (.slice va ps.length vc)∧W.cell? ⟨b,off+k*8+5,none⟩=some (.string fo)∧W.cell? ⟨rb,1,none⟩=some (.int .i64 ty)∧W.cell? ⟨rb,3,none⟩=some (.int .i64 tt)) 17 (by kernel_rfl) ⟨rz2 1,hfo,rr2 1,rr2 3⟩ (fun hHeld=>?_);refine tkL (i:=0) (v:=?_) rfl ?_ ?_;rotate_left 1
 ·(intro W hSW;obtain⟨z0,z1,z2,z3⟩:=hSW;go_simp;try (with_reducible rfl))
 refine tkL (i:=1) (v:=?_) rfl ?_ ?_;rotate_left 1
 ·(intro W hSW;obtain⟨z0,z1,z2,z3⟩:=hSW;go_simp;try (with_reducible rfl))
 refine tkL (i:=2) (v:=?_) rfl ?_ ?_;rotate_left 1
 ·(intro W hSW;obtain⟨z0,z1,z2,z3⟩:=hSW;go_simp;try (with_reducible rfl))
 refine tkL (i:=3) (v:=?_) rfl ?_ ?_;rotate_left 1
 ·(intro W hSW;obtain⟨z0,z1,z2,z3⟩:=hSW;go_simp;try (with_reducible rfl))
 refine tkL (i:=4) (v:=?_) rfl ?_ ?_;rotate_left 1
 ·(intro W hSW;obtain⟨z0,z1,z2,z3⟩:=hSW;go_simp;try (with_reducible rfl))
 refine tkL (i:=5) (v:=?_) rfl ?_ ?_;rotate_left 1
 ·(intro W hSW;obtain⟨z0,z1,z2,z3⟩:=hSW;go_simp;try (with_reducible rfl))
 refine tkL (i:=6) (v:=?_) rfl ?_ ?_;rotate_left 1
 ·(intro W hSW;obtain⟨z0,z1,z2,z3⟩:=hSW;go_simp;try (with_reducible rfl))
 refine tkL (i:=7) (v:=?_) rfl ?_ ?_;rotate_left 1
 ·(intro W hSW;obtain⟨z0,z1,z2,z3⟩:=hSW;go_simp;try (with_reducible rfl))
 refine tkL (i:=9) (v:=?_) rfl ?_ ?_;rotate_left 1
 ·(intro W hSW;obtain⟨z0,z1,z2,z3⟩:=hSW;go_simp;try (with_reducible rfl))
 refine tkL (i:=10) (v:=?_) rfl ?_ ?_;rotate_left 1
 ·(intro W hSW;obtain⟨z0,z1,z2,z3⟩:=hSW;go_simp;try (with_reducible rfl))
 refine tkL (i:=11) (v:=?_) rfl ?_ ?_;rotate_left 1
 ·(intro W hSW;obtain⟨z0,z1,z2,z3⟩:=hSW;go_simp;try (with_reducible rfl))
 refine tkL (i:=12) (v:=?_) rfl ?_ ?_;rotate_left 1
 ·(intro W hSW;obtain⟨z0,z1,z2,z3⟩:=hSW;go_simp;try (with_reducible rfl))
 refine wpAnyL_one (i:=8) (by kernel_rfl) rfl (fun K hK=>?_);go_simp;refine(hown _ (Below.refl _ _).drew).mono ?_;rintro e wv ⟨rfl,hwv⟩;obtain rfl:=hwv;go_wp2_with fail
 refine hK.out _ _ (by assumption) (fun _=>?_);clear hK K hown;generalize ownI its fo=OW at*;refine tkL (i:=13) (v:=?_) rfl ?_ ?_;rotate_left 1
 ·(intro W hSW;obtain⟨z0,z1,z2,z3⟩:=hSW;go_simp;try (with_reducible rfl))
 have hbz1:∀ o:Obj,Below wz.heap.size wz (wz.drew.alloc o):=fun o=>(Below.refl _ _).drew.alloc (Nat.le_refl _) _
 refine wpAnyL_one (i:=14) (by kernel_rfl) rfl (fun K hK=>?_);go_simp;refine hK.out _ _ ⟨(blk_cell (blk_below kz2 (hbz1 _)) 1),((hbz1 _).cell (World.block_lt_of_cell? wz _ hfo)).trans hfo,(blk_cell (blk_below kr2 (hbz1 _)) 1),(blk_cell (blk_below kr2 (hbz1 _)) 3)⟩ (fun _=>?_);clear hK K;refine wpAnyL_one (i:=15) (by kernel_rfl) rfl (fun K hK=>?_);refine step_append_own_at rfl (.tmp 151) (.tmp 164) 30 rfl (zb+1) 65 j0 _ 4 56 Tryz.underlying30 hj hy0 hy1 hy2 rfl (by decide) _ _ _ (by rfl) (own_below hZ2.outer (hbz1 _)) ⟨wz.heap.size,0,none⟩ 1 1 [.string OW,.int .i64 ty,.int .i64 tt,.slice none 0 0] (by rfl) rfl (cell_newV _ _ _) (by intro u hu;simp at hu;rcases hu with rfl|rfl|rfl|rfl<;>rfl) (by unfold maxLen;omega) (by omega) (by simp;omega) ?_;intro vv wa ho9 hg9 hnl9 hat9;have hZ3:=((hZ2.below (hbz1 _)).snoc (s:=⟨OW,ty,tt,[]⟩) (u:=.slice none 0 0) (World.ownsRow_nil _ _ _ _) (by intro p hp g hg;simp [Value.ownBlock]) ho9 hg9);have oo:=own_below hZ2.outer (hbz1 (.cells #[.string OW,.int .i64 ty,.int .i64 tt,.slice none 0 0] 65));have kz3:=blk_grown (blk_below kz2 (hbz1 _)) hg9 (own_nbZ oo (blk_below kz2 (hbz1 _)) (by decide));have kr3:=blk_grown (blk_below kr2 (hbz1 _)) hg9 (own_nbZ oo (blk_below kr2 (hbz1 _)) (by decide));have hb3:Below (zb+1) wz wa:=((hbz1 _).mono (by omega)).grown hg9 (by simp;omega) (fun g hg=>(hZ2.outer.lt g hg).1);have hfo3:=(hb3.cell (p:=⟨b,off+k*8+5,none⟩) (by show b<zb+1;omega)).trans hfo;obtain⟨xa,xc,rfl⟩:=own_sl ho9;have r3:=fun i=>blk_cell kz3 i
 have f3:=fun i=>blk_frozen kz3 i
 refine hK.out _ _ ⟨(blk_cell kz3 1),hfo3,(blk_cell kr3 1),(blk_cell kr3 3)⟩ (fun _=>?_);clear hK K;refine tkL (i:=16) (v:=?_) rfl ?_ ?_;rotate_left 1
 ·(intro W hSW;obtain⟨z0,z1,z2,z3⟩:=hSW;go_simp;try (with_reducible rfl))
 have kz4:=blk_set kz3 1 (.slice xa (ps.length+1) xc);have kr4:=blk_far (v:=.slice xa (ps.length+1) xc) (i:=1) kr3 hrz;have HF:=Nm.hide (And.intro kz4 (And.intro kr4 (And.intro (hZ3.far (g:=zb) (i:=1) (y:=.slice xa (ps.length+1) xc) (by omega)) ((hb3.mono (Nat.le_succ _)).setCell (p:=⟨zb,1,none⟩) (Nat.le_refl _) (.slice xa (ps.length+1) xc)))));refine wpAnyL_end (by kernel_rfl) rfl (by kernel_rfl) (fun K hK=>?_);go_simp;refine hK.out _ _ (NoPanic.normal ?_);clear hK K hat9 hnl9 hg9 ho9 kr3 kz3 kz4 kr4 hZ3 hb3;refine hexit _ _ _ _ _ _ _ _ _ _ _ _ _ _ _ _ _ _ ?_;exact⟨_,HF.out.1,HF.out.2.1,HF.out.2.2.1,HF.out.2.2.2⟩
end Go.Proofs.YtaceiajcecaapaaGreat
