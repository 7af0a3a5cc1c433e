import Derived.Test.YtahpiciofdfipaaGreatJZbG
import Derived.Test.YtahpiciofdfipaaGreatJZbA
import Derived.Test.YtahpiciofdfipaaGreatJOwnT
import Derived.Test.YtahpiciofdfipaaGreatJUnderM
import Derived.Test.YtahpiciofdfipaaGreatJCmpM
import Derived.Test.YtahpiciofdfipaaGreatJNameOKs
namespace Go.Proofs.YtahpiciofdfipaaGreat
open Go.RowKit
set_option linter.unusedVariables false
def loopsZ:Code->List Code
 |.loop c=>[c]
 |.seq a b=>loopsZ a++loopsZ b
 |.block _ c=>loopsZ c
 |.scope c=>loopsZ c
 |.cond _ a b=>loopsZ a++loopsZ b
 |_=>[]
noncomputable def bzTop:List Code:=((Tryz.f16).body.map loopsZ).getD []
noncomputable def bzL3:Code:=(bzTop[2]?).getD .skip
def sndZ:Code->Code
 |.seq _ b=>b
 |c=>c
def fstZ:Code->Code
 |.seq a _=>a
 |c=>c
def inZ:Code->Code
 |.block _ c=>c
 |.cond _ a _=>a
 |c=>c
noncomputable def bzB:Code:=sndZ (inZ (fstZ (sndZ bzL3)))
noncomputable def bzM:Code:=sndZ (sndZ bzB)
noncomputable def bzN:Code:=inZ (sndZ (fstZ bzB))
theorem wrap64_sm{n:Nat}(h:n<=1000000):wrap64 (n:Int)=(n:Int):=by unfold wrap64;omega
theorem gen_worldZ{Pr G:World->Prop}{W:World}(h:Pr W)(k:∀ W,Pr W->G W):G W:=k W h
theorem Tryz.infoSetZ:(Tryz.prog.info? 44).map (fun i=>(i.zero,i.size,i.bytes))=some (some (.agg #[.string ByteArray.empty,.int .i64 0,.int .i64 0,.slice none 0 0]),4,56):=by kernel_rfl
theorem own_nbZ{W:World}{B e s n b:Nat}{v:Value}{xs:List Value}{cs:Array Value}{T:TypeId}(h:W.ownsRow B e s v n xs)(hb:Blk W b cs T)(hne:e≠T):v.ownBlock≠some b:=by
 intro he
 rcases h.2 with⟨rfl,_⟩|⟨g,cap,cur,rfl,_,hh,_⟩
 ·cases he
 ·simp only [Value.ownBlock,Option.some.injEq] at he;subst he;rw [Blk,hh] at hb;simp only [Option.some.injEq,Obj.cells.injEq] at hb;exact hne hb.2.1
set_option maxRecDepth 1000000 in
set_option maxHeartbeats 16000000 in
theorem zone_more(apex da:ByteArray)(zb rb:Nat)(vs2:Value)(ps0:List Zp)(s:Sz)(ux:Option Addr)(uc:Nat)(r0 r1 r2 r3:Value)(hpl0:ps0.length<=500)(hsl:s.da.length<=500)(Q0:Exit->Act->World->Prop)(wz:World)
 (kz2:Blk wz zb #[.string apex,vs2] 25) (kr2:Blk wz rb #[r0,r1,r2,r3,.string da] 79) (hZ2:ZOwn wz (zb+1) vs2 (ps0++[(s,.slice ux s.da.length uc)]))
 (s0 s1 s2 s3 s4 s5 s6 s7 s8 s9 s10 s11 s12 s13 s14 s16 s19 s20 s21 s22 s23 s24 s25 s26 s27 s28 s29 s30 s31 s32 s33 s34 s35 s36 s37 s38 s39 s40 s41 s42 s43 s44 s45 s46 s47 s48 s49 s50 s51 s52 s53 s54 s55 s56 s57 s58 s59 s60 s61 s62 s63 s64 s65 s66 s67 s68 s69 s70 s71 s72 s73 s74 s75 s76 s77 s78 s79 s80 s81 s82 s83 s84 s85 s86 s87 s88 s89 s90 s91 s92 s93 s94 s95 s96 s97 s98 s99 s100 s101 s102 s103 s104 s105 s106 s107 s108 s109 s110 s111 s112 s113 s114 s115 s116 s117 s118 s119 s120 s121 s122 s123 s124 s125 s126 s127 s128 s129 s130 s131 s132 s133 s134 s135 s136 s137 s138 s139 s140 s141 s142 s143 s144 s145 s146 s147 s148 s149 s150 s151 s152 s153 s154 s155 s156 s157 s158 s159 s160 s161 s162 s163 s164 s165 s166 s167 s168 s169 s170 s171 s172 s173 s174 s175 s176 s177 s178 s179 s180 s181 s182 s183 s184 s185 s186:Value)
 (hexit:∀ (u171 u172 u173 u174 u175 u176 u177 u178 u179 u180 u181 u182 u183 u184 u185:Value) (w':World),(∃ u',Blk w' zb #[.string apex,vs2] 25∧ZOwn w' (zb+1) vs2 (ps0++[(({s with da:=s.da++[da]}:Sz),u')])∧Below (zb+1) wz w')->Q0 .normal ⟨(s0::s1::s2::s3::s4::s5::s6::s7::s8::s9::s10::s11::s12::s13::s14::.pointer (some ⟨zb,0,none⟩)::s16::.pointer (some ⟨rb,0,none⟩)::.int .i64 (ps0.length:Int)::s19::s20::s21::s22::s23::s24::s25::s26::s27::s28::s29::s30::s31::s32::s33::s34::s35::s36::s37::s38::s39::s40::s41::s42::s43::s44::s45::s46::s47::s48::s49::s50::s51::s52::s53::s54::s55::s56::s57::s58::s59::s60::s61::s62::s63::s64::s65::s66::s67::s68::s69::s70::s71::s72::s73::s74::s75::s76::s77::s78::s79::s80::s81::s82::s83::s84::s85::s86::s87::s88::s89::s90::s91::s92::s93::s94::s95::s96::s97::s98::s99::s100::s101::s102::s103::s104::s105::s106::s107::s108::s109::s110::s111::s112::s113::s114::s115::s116::s117::s118::s119::s120::s121::s122::s123::s124::s125::s126::s127::s128::s129::s130::s131::s132::s133::s134::s135::s136::s137::s138::s139::s140::s141::s142::s143::s144::s145::s146::s147::s148::s149::s150::s151::s152::s153::s154::s155::s156::s157::s158::s159::s160::s161::s162::s163::s164::s165::s166::s167::s168::s169::s170::u171::u172::u173::u174::u175::u176::u177::u178::u179::u180::u181::u182::u183::u184::u185::s186::[]).toArray,[]⟩ w'):
 Code.wp Tryz.prog bzM Q0 ⟨(s0::s1::s2::s3::s4::s5::s6::s7::s8::s9::s10::s11::s12::s13::s14::.pointer (some ⟨zb,0,none⟩)::s16::.pointer (some ⟨rb,0,none⟩)::.int .i64 (ps0.length:Int)::s19::s20::s21::s22::s23::s24::s25::s26::s27::s28::s29::s30::s31::s32::s33::s34::s35::s36::s37::s38::s39::s40::s41::s42::s43::s44::s45::s46::s47::s48::s49::s50::s51::s52::s53::s54::s55::s56::s57::s58::s59::s60::s61::s62::s63::s64::s65::s66::s67::s68::s69::s70::s71::s72::s73::s74::s75::s76::s77::s78::s79::s80::s81::s82::s83::s84::s85::s86::s87::s88::s89::s90::s91::s92::s93::s94::s95::s96::s97::s98::s99::s100::s101::s102::s103::s104::s105::s106::s107::s108::s109::s110::s111::s112::s113::s114::s115::s116::s117::s118::s119::s120::s121::s122::s123::s124::s125::s126::s127::s128::s129::s130::s131::s132::s133::s134::s135::s136::s137::s138::s139::s140::s141::s142::s143::s144::s145::s146::s147::s148::s149::s150::s151::s152::s153::s154::s155::s156::s157::s158::s159::s160::s161::s162::s163::s164::s165::s166::s167::s168::s169::s170::s171::s172::s173::s174::s175::s176::s177::s178::s179::s180::s181::s182::s183::s184::s185::s186::[]).toArray,[]⟩ wz:=by
 obtain⟨s0,hs,hx0,hx1,hx2⟩:=info_parts Tryz.infoStr
 obtain⟨g,gc,rfl⟩:∃ g gc,vs2=.slice (some ⟨g,0,none⟩) (ps0.length+1) gc:=by
  rcases hZ2.outer.2 with⟨_,h0⟩|⟨g,gc,cur,e,_⟩
  ·simp at h0
  ·exact⟨g,gc,by rw [e];simp⟩
 have hlast:(ps0++[(s,Value.slice ux s.da.length uc)])[ps0.length]? =some (s,Value.slice ux s.da.length uc):=by simp
 have hin:wz.ownsRow (zb+1) 9 1 (.slice ux s.da.length uc) s.da.length (s.da.map Value.string):=hZ2.inner _ _ hlast;have hou:=hZ2.outer;rw [List.length_append,List.length_singleton] at hou;have hcu:wz.cell? ⟨g,ps0.length*4+3,none⟩=some (.slice ux s.da.length uc):=(hou.cellAt (ps0.length*4+3) (by omega)).trans ((zpVs_at _ _ 3 _ hlast (by decide)).trans rfl);have hfu:=hou.frozenAt (ps0.length*4+3);have rz2:=fun i=>blk_cell kz2 i
 have rr2:=fun i=>blk_cell kr2 i
 have hpl:ps0.length<=500:=by
  exact hpl0
 have hwp:=wrap64_sm (n:=ps0.length) (Nat.le_trans hpl (by decide));have m1:(0:Int)<=(ps0.length:Int):=Int.natCast_nonneg _;have m2:(ps0.length:Int)<(ps0.length:Int)+1:=Int.lt_add_one_of_le (Int.le_refl _);have hlz:=blk_lt kz2
 conv=>arg 2;whnf
 refine wp_region_noPanic ?_;refine wp_region_last (fun W=>W.cell? ⟨zb,1,none⟩=some (.slice (some ⟨g,0,none⟩) (ps0.length+1) gc)∧W.cell? ⟨g,ps0.length*4+3,none⟩=some (.slice ux s.da.length uc)∧W.cell? ⟨rb,4,none⟩=some (.string da)∧True) 15 (by kernel_rfl) ⟨rz2 1,hcu,rr2 4,trivial⟩ (fun hHeld=>?_);refine tkL (i:=0) (v:=?_) rfl ?_ ?_;rotate_left 1
 ·(intro W hSW;obtain⟨z0,z1,z2,z3⟩:=hSW;go_simp;try (with_reducible rfl))
 refine tkL (i:=1) (v:=?_) rfl ?_ ?_;rotate_left 1
 ·(intro W hSW;obtain⟨z0,z1,z2,z3⟩:=hSW;go_simp;try (with_reducible rfl))
 refine tkL (i:=2) (v:=?_) rfl ?_ ?_;rotate_left 1
 ·(intro W hSW;obtain⟨z0,z1,z2,z3⟩:=hSW;go_simp;try (with_reducible rfl))
 refine tkL (i:=3) (v:=?_) rfl ?_ ?_;rotate_left 1
 ·(intro W hSW;obtain⟨z0,z1,z2,z3⟩:=hSW;go_simp;try (with_reducible rfl))
 refine tkL (i:=4) (v:=?_) rfl ?_ ?_;rotate_left 1
 ·(intro W hSW;obtain⟨z0,z1,z2,z3⟩:=hSW;go_simp;try (with_reducible rfl))
 refine tkL (i:=5) (v:=?_) rfl ?_ ?_;rotate_left 1
 ·(intro W hSW;obtain⟨z0,z1,z2,z3⟩:=hSW;go_simp;try (with_reducible rfl))
 refine tkL (i:=6) (v:=?_) rfl ?_ ?_;rotate_left 1
 ·(intro W hSW;obtain⟨z0,z1,z2,z3⟩:=hSW;go_simp;try (with_reducible rfl))
 refine tkL (i:=7) (v:=?_) rfl ?_ ?_;rotate_left 1
 ·(intro W hSW;obtain⟨z0,z1,z2,z3⟩:=hSW;go_simp;try (with_reducible rfl))
 refine tkL (i:=8) (v:=?_) rfl ?_ ?_;rotate_left 1
 ·(intro W hSW;obtain⟨z0,z1,z2,z3⟩:=hSW;go_simp;try (with_reducible rfl))
 refine tkL (i:=9) (v:=?_) rfl ?_ ?_;rotate_left 1
 ·(intro W hSW;obtain⟨z0,z1,z2,z3⟩:=hSW;go_simp;try (with_reducible rfl))
 refine tkL (i:=10) (v:=?_) rfl ?_ ?_;rotate_left 1
 ·(intro W hSW;obtain⟨z0,z1,z2,z3⟩:=hSW;go_simp;try (with_reducible rfl))
 refine wpAnyL_one (i:=11) (by kernel_rfl) rfl (fun K hK=>?_);go_simp;refine hK.out _ _ ⟨(blk_cell (blk_below kz2 ((Below.refl _ _).drew.alloc (Nat.le_refl _) _)) 1),((((Below.refl _ _).drew.alloc (Nat.le_refl _) _).cell (World.block_lt_of_cell? wz _ hcu)).trans hcu),(blk_cell (blk_below kr2 ((Below.refl _ _).drew.alloc (Nat.le_refl _) _)) 4),trivial⟩ (fun _=>?_);clear hK K;refine wpAnyL_one (i:=12) (by kernel_rfl) rfl (fun K hK=>?_);refine step_append_own_at rfl (.tmp 179) (.tmp 182) 35 rfl (zb+1) 9 s0 _ 1 16 Tryz.underlying35 hs hx0 hx1 hx2 rfl (by decide) _ _ _ (by rfl) (own_below hin ((Below.refl _ _).drew.alloc (Nat.le_refl _) _)) ⟨wz.heap.size,0,none⟩ 1 1 [.string da] (by rfl) rfl (cell_newV _ _ _) (by intro u hu;simp at hu;rcases hu with rfl;rfl) (by unfold maxLen;omega) (by omega) (by simp;omega) ?_;intro va wa ho9 hg9 hnl9 hat9;have hbz:Below wz.heap.size wz (wz.drew.alloc (.cells #[.string da] 9)):=(Below.refl _ _).drew.alloc (Nat.le_refl _) _;have hZ3:=(hZ2.below hbz).more ho9 hg9 (by rcases hat9 with h|h;exact .inl h;right;intro g' e;rw [h] at e;simp at e;simp;omega);have kz3:=blk_grown (blk_below kz2 hbz) hg9 (own_nbZ (own_below hin hbz) (blk_below kz2 hbz) (by decide));have kr3:=blk_grown (blk_below kr2 hbz) hg9 (own_nbZ (own_below hin hbz) (blk_below kr2 hbz) (by decide));have hou3:=own_besideZ (own_below hou hbz) hg9 (own_kindsZ (own_below hou hbz) (own_below hin hbz) (by decide));have hcu3:wa.cell? ⟨g,ps0.length*4+3,none⟩=some (.slice ux s.da.length uc):=(hou3.cellAt (ps0.length*4+3) (by omega)).trans ((zpVs_at _ _ 3 _ hlast (by decide)).trans rfl);have hfu3:=hou3.frozenAt (ps0.length*4+3);have hgB:=(hou3.lt g rfl).1;have hb3:Below (zb+1) wz wa:=(hbz.mono (by omega)).grown hg9 (by simp;omega) (fun g hg=>(hin.lt g hg).1);have hgz:=own_nbZ hou3 kz3 (by decide);obtain⟨xa,xc,rfl⟩:=own_sl ho9;have kz4:Blk (wa.setCell ⟨g,ps0.length*4+3,none⟩ (.slice xa (s.da.length+1) xc)) zb #[.string apex,.slice (some ⟨g,0,none⟩) (ps0.length+1) gc] 25:=blk_far kz3 (fun e=>hgz (by rw [e];rfl));refine hK.out _ _ ⟨(blk_cell kz3 1),hcu3,(blk_cell kr3 4),trivial⟩ (fun _=>?_);clear hK K;refine wpAnyL_one (i:=13) (by kernel_rfl) rfl (fun K hK=>?_);go_simp;refine hK.out _ _ ⟨(blk_cell kz3 1),hcu3,(blk_cell kr3 4),trivial⟩ (fun _=>?_);clear hK K;refine tkL (i:=14) (v:=?_) rfl ?_ ?_;rotate_left 1
 ·(intro W hSW;obtain⟨z0,z1,z2,z3⟩:=hSW;go_simp;try (with_reducible rfl))
 refine wpAnyL_end (by kernel_rfl) rfl (by kernel_rfl) (fun K hK=>?_);go_simp;refine hK.out _ _ (NoPanic.normal ?_);clear hK K hat9 hnl9 hg9 ho9 kr3 kz3 hou3 hou hin;have HF:=Nm.hide (And.intro kz4 (And.intro hZ3 (hb3.setCell (p:=⟨g,ps0.length*4+3,none⟩) hgB (.slice xa (s.da.length+1) xc))));clear kz4 hZ3 hb3
 first
  |exact⟨_,HF.out.1,HF.out.2.1,HF.out.2.2⟩
  |(refine hexit _ _ _ _ _ _ _ _ _ _ _ _ _ _ _ _ ?_;exact⟨_,HF.out.1,HF.out.2.1,HF.out.2.2⟩)
set_option maxRecDepth 1000000 in
set_option maxHeartbeats 16000000 in
theorem zone_new(its:List It)(apex fo:ByteArray)(ty tt:Int)(zb rb b off k m n lc uc:Nat)(la va:Option Addr)(vc:Nat)(ps:List Zp)(r0 r2 r4:Value)(hpl:ps.length<=500)(hn:n<=500)(HITL:Hid (its.length=n))(hkm:k<m)(hm:m<=500)(hbz:b<zb)(Q0:Exit->Act->World->Prop)(wz:World)
 (kz2:Blk wz zb #[.string apex,.slice va ps.length vc] 25) (kr2:Blk wz rb #[r0,.int .i64 ty,r2,.int .i64 tt,r4] 79) (hrz:rb≠zb) (hZ2:ZOwn wz (zb+1) (.slice va ps.length vc) ps)
 (hits:CRow wz (.slice la n lc) n 8 (itCs its)) (hfo:wz.cell? ⟨b,off+k*8+5,none⟩=some (.string fo))
 (s0 s1 s2 s3 s4 s5 s6 s8 s9 s10 s11 s12 s14 s18 s19 s20 s21 s22 s23 s24 s25 s26 s27 s28 s29 s30 s31 s32 s33 s34 s35 s36 s37 s38 s39 s40 s41 s42 s43 s44 s45 s46 s47 s48 s49 s50 s51 s52 s53 s54 s55 s56 s57 s58 s59 s60 s61 s62 s63 s64 s65 s66 s67 s68 s69 s70 s71 s72 s73 s74 s75 s76 s77 s78 s79 s80 s81 s82 s83 s84 s85 s86 s87 s88 s89 s90 s91 s92 s93 s94 s95 s96 s97 s98 s99 s100 s101 s102 s103 s104 s105 s106 s107 s108 s109 s110 s111 s112 s113 s114 s115 s116 s117 s118 s119 s120 s121 s122 s123 s124 s125 s126 s127 s128 s129 s130 s131 s132 s133 s134 s135 s136 s137 s138 s139 s140 s141 s142 s143 s144 s145 s146 s147 s148 s149 s150 s151 s152 s153 s154 s155 s156 s157 s158 s159 s160 s161 s162 s163 s164 s165 s166 s167 s168 s169 s170 s171 s172 s173 s174 s175 s176 s177 s178 s179 s180 s181 s182 s183 s184 s185 s186:Value)
 (hexit:∀ (u150 u151 u152 u153 u154 u155 u156 u157 u158 u159 u160 u161 u162 u163 u164 u165 u166:Value) (w':World),(∃ vs',Blk w' zb #[.string apex,vs'] 25∧Blk w' rb #[r0,.int .i64 ty,r2,.int .i64 tt,r4] 79∧ZOwn w' (zb+1) vs' (ps++[((⟨ownI its fo,ty,tt,[]⟩:Sz),.slice none 0 0)])∧Below zb wz w')->Q0 .normal ⟨(s0::s1::s2::s3::s4::s5::s6::.slice la n lc::s8::s9::s10::s11::s12::.slice (some ⟨b,off,none⟩) m uc::s14::.pointer (some ⟨zb,0,none⟩)::.int .i64 (k:Int)::.pointer (some ⟨rb,0,none⟩)::s18::s19::s20::s21::s22::s23::s24::s25::s26::s27::s28::s29::s30::s31::s32::s33::s34::s35::s36::s37::s38::s39::s40::s41::s42::s43::s44::s45::s46::s47::s48::s49::s50::s51::s52::s53::s54::s55::s56::s57::s58::s59::s60::s61::s62::s63::s64::s65::s66::s67::s68::s69::s70::s71::s72::s73::s74::s75::s76::s77::s78::s79::s80::s81::s82::s83::s84::s85::s86::s87::s88::s89::s90::s91::s92::s93::s94::s95::s96::s97::s98::s99::s100::s101::s102::s103::s104::s105::s106::s107::s108::s109::s110::s111::s112::s113::s114::s115::s116::s117::s118::s119::s120::s121::s122::s123::s124::s125::s126::s127::s128::s129::s130::s131::s132::s133::s134::s135::s136::s137::s138::s139::s140::s141::s142::s143::s144::s145::s146::s147::s148::s149::u150::u151::u152::u153::u154::u155::u156::u157::u158::u159::u160::u161::u162::u163::u164::u165::u166::s167::s168::s169::s170::s171::s172::s173::s174::s175::s176::s177::s178::s179::s180::s181::s182::s183::s184::s185::s186::[]).toArray,[]⟩ w'):
 Code.wp Tryz.prog bzN Q0 ⟨(s0::s1::s2::s3::s4::s5::s6::.slice la n lc::s8::s9::s10::s11::s12::.slice (some ⟨b,off,none⟩) m uc::s14::.pointer (some ⟨zb,0,none⟩)::.int .i64 (k:Int)::.pointer (some ⟨rb,0,none⟩)::s18::s19::s20::s21::s22::s23::s24::s25::s26::s27::s28::s29::s30::s31::s32::s33::s34::s35::s36::s37::s38::s39::s40::s41::s42::s43::s44::s45::s46::s47::s48::s49::s50::s51::s52::s53::s54::s55::s56::s57::s58::s59::s60::s61::s62::s63::s64::s65::s66::s67::s68::s69::s70::s71::s72::s73::s74::s75::s76::s77::s78::s79::s80::s81::s82::s83::s84::s85::s86::s87::s88::s89::s90::s91::s92::s93::s94::s95::s96::s97::s98::s99::s100::s101::s102::s103::s104::s105::s106::s107::s108::s109::s110::s111::s112::s113::s114::s115::s116::s117::s118::s119::s120::s121::s122::s123::s124::s125::s126::s127::s128::s129::s130::s131::s132::s133::s134::s135::s136::s137::s138::s139::s140::s141::s142::s143::s144::s145::s146::s147::s148::s149::s150::s151::s152::s153::s154::s155::s156::s157::s158::s159::s160::s161::s162::s163::s164::s165::s166::s167::s168::s169::s170::s171::s172::s173::s174::s175::s176::s177::s178::s179::s180::s181::s182::s183::s184::s185::s186::[]).toArray,[]⟩ wz:=by
 obtain⟨j0,hj,hy0,hy1,hy2⟩:=info_parts Tryz.infoSetZ;have hown:=fun W (hW:Below wz.heap.size wz W)=>l06Owner_any (.slice la n lc) its fo W (by rw [HITL.out];exact hits.below hW) (by rw [HITL.out];omega)
 have n1:(0:Int)<=(k:Int):=by omega
 have n2:(k:Int)<(m:Int):=by omega
 have hlz:=blk_lt kz2;have rz2:=fun i=>blk_cell kz2 i
 have rr2:=fun i=>blk_cell kr2 i
 have hwk:IntKind.i64.wrap (k:Int)=(k:Int):=Go.wrap_small _ (by omega) (by omega)
 conv=>arg 2;whnf
 refine wp_region_noPanic ?_;refine wp_region_last (fun W=>W.cell? ⟨zb,1,none⟩=some (.slice va ps.length vc)∧W.cell? ⟨b,off+k*8+5,none⟩=some (.string fo)∧W.cell? ⟨rb,1,none⟩=some (.int .i64 ty)∧W.cell? ⟨rb,3,none⟩=some (.int .i64 tt)) 17 (by kernel_rfl) ⟨rz2 1,hfo,rr2 1,rr2 3⟩ (fun hHeld=>?_);refine tkL (i:=0) (v:=?_) rfl ?_ ?_;rotate_left 1
 ·(intro W hSW;obtain⟨z0,z1,z2,z3⟩:=hSW;go_simp;try (with_reducible rfl))
 refine tkL (i:=1) (v:=?_) rfl ?_ ?_;rotate_left 1
 ·(intro W hSW;obtain⟨z0,z1,z2,z3⟩:=hSW;go_simp;try (with_reducible rfl))
 refine tkL (i:=2) (v:=?_) rfl ?_ ?_;rotate_left 1
 ·(intro W hSW;obtain⟨z0,z1,z2,z3⟩:=hSW;go_simp;try (with_reducible rfl))
 refine tkL (i:=3) (v:=?_) rfl ?_ ?_;rotate_left 1
 ·(intro W hSW;obtain⟨z0,z1,z2,z3⟩:=hSW;go_simp;try (with_reducible rfl))
 refine tkL (i:=4) (v:=?_) rfl ?_ ?_;rotate_left 1
 ·(intro W hSW;obtain⟨z0,z1,z2,z3⟩:=hSW;go_simp;try (with_reducible rfl))
 refine tkL (i:=5) (v:=?_) rfl ?_ ?_;rotate_left 1
 ·(intro W hSW;obtain⟨z0,z1,z2,z3⟩:=hSW;go_simp;try (with_reducible rfl))
 refine tkL (i:=6) (v:=?_) rfl ?_ ?_;rotate_left 1
 ·(intro W hSW;obtain⟨z0,z1,z2,z3⟩:=hSW;go_simp;try (with_reducible rfl))
 refine tkL (i:=7) (v:=?_) rfl ?_ ?_;rotate_left 1
 ·(intro W hSW;obtain⟨z0,z1,z2,z3⟩:=hSW;go_simp;try (with_reducible rfl))
 refine tkL (i:=9) (v:=?_) rfl ?_ ?_;rotate_left 1
 ·(intro W hSW;obtain⟨z0,z1,z2,z3⟩:=hSW;go_simp;try (with_reducible rfl))
 refine tkL (i:=10) (v:=?_) rfl ?_ ?_;rotate_left 1
 ·(intro W hSW;obtain⟨z0,z1,z2,z3⟩:=hSW;go_simp;try (with_reducible rfl))
 refine tkL (i:=11) (v:=?_) rfl ?_ ?_;rotate_left 1
 ·(intro W hSW;obtain⟨z0,z1,z2,z3⟩:=hSW;go_simp;try (with_reducible rfl))
 refine tkL (i:=12) (v:=?_) rfl ?_ ?_;rotate_left 1
 ·(intro W hSW;obtain⟨z0,z1,z2,z3⟩:=hSW;go_simp;try (with_reducible rfl))
 refine wpAnyL_one (i:=8) (by kernel_rfl) rfl (fun K hK=>?_);go_simp;refine(hown _ (Below.refl _ _).drew).mono ?_;rintro e wv ⟨rfl,hwv⟩;obtain rfl:=hwv;go_wp2_with fail
 refine hK.out _ _ (by assumption) (fun _=>?_);clear hK K hown;generalize ownI its fo=OW at*;refine tkL (i:=13) (v:=?_) rfl ?_ ?_;rotate_left 1
 ·(intro W hSW;obtain⟨z0,z1,z2,z3⟩:=hSW;go_simp;try (with_reducible rfl))
 have hbz1:∀ o:Obj,Below wz.heap.size wz (wz.drew.alloc o):=fun o=>(Below.refl _ _).drew.alloc (Nat.le_refl _) _
 refine wpAnyL_one (i:=14) (by kernel_rfl) rfl (fun K hK=>?_);go_simp;refine hK.out _ _ ⟨(blk_cell (blk_below kz2 (hbz1 _)) 1),((hbz1 _).cell (World.block_lt_of_cell? wz _ hfo)).trans hfo,(blk_cell (blk_below kr2 (hbz1 _)) 1),(blk_cell (blk_below kr2 (hbz1 _)) 3)⟩ (fun _=>?_);clear hK K;refine wpAnyL_one (i:=15) (by kernel_rfl) rfl (fun K hK=>?_);refine step_append_own_at rfl (.tmp 151) (.tmp 164) 23 rfl (zb+1) 44 j0 _ 4 56 Tryz.underlying23 hj hy0 hy1 hy2 rfl (by decide) _ _ _ (by rfl) (own_below hZ2.outer (hbz1 _)) ⟨wz.heap.size,0,none⟩ 1 1 [.string OW,.int .i64 ty,.int .i64 tt,.slice none 0 0] (by rfl) rfl (cell_newV _ _ _) (by intro u hu;simp at hu;rcases hu with rfl|rfl|rfl|rfl<;>rfl) (by unfold maxLen;omega) (by omega) (by simp;omega) ?_;intro vv wa ho9 hg9 hnl9 hat9;have hZ3:=((hZ2.below (hbz1 _)).snoc (s:=⟨OW,ty,tt,[]⟩) (u:=.slice none 0 0) (World.ownsRow_nil _ _ _ _) (by intro p hp g hg;simp [Value.ownBlock]) ho9 hg9);have oo:=own_below hZ2.outer (hbz1 (.cells #[.string OW,.int .i64 ty,.int .i64 tt,.slice none 0 0] 44));have kz3:=blk_grown (blk_below kz2 (hbz1 _)) hg9 (own_nbZ oo (blk_below kz2 (hbz1 _)) (by decide));have kr3:=blk_grown (blk_below kr2 (hbz1 _)) hg9 (own_nbZ oo (blk_below kr2 (hbz1 _)) (by decide));have hb3:Below (zb+1) wz wa:=((hbz1 _).mono (by omega)).grown hg9 (by simp;omega) (fun g hg=>(hZ2.outer.lt g hg).1);have hfo3:=(hb3.cell (p:=⟨b,off+k*8+5,none⟩) (by show b<zb+1;omega)).trans hfo;obtain⟨xa,xc,rfl⟩:=own_sl ho9;have r3:=fun i=>blk_cell kz3 i
 have f3:=fun i=>blk_frozen kz3 i
 refine hK.out _ _ ⟨(blk_cell kz3 1),hfo3,(blk_cell kr3 1),(blk_cell kr3 3)⟩ (fun _=>?_);clear hK K;refine tkL (i:=16) (v:=?_) rfl ?_ ?_;rotate_left 1
 ·(intro W hSW;obtain⟨z0,z1,z2,z3⟩:=hSW;go_simp;try (with_reducible rfl))
 have kz4:=blk_set kz3 1 (.slice xa (ps.length+1) xc);have kr4:=blk_far (v:=.slice xa (ps.length+1) xc) (i:=1) kr3 hrz;have HF:=Nm.hide (And.intro kz4 (And.intro kr4 (And.intro (hZ3.far (g:=zb) (i:=1) (y:=.slice xa (ps.length+1) xc) (by omega)) ((hb3.mono (Nat.le_succ _)).setCell (p:=⟨zb,1,none⟩) (Nat.le_refl _) (.slice xa (ps.length+1) xc)))));refine wpAnyL_end (by kernel_rfl) rfl (by kernel_rfl) (fun K hK=>?_);go_simp;refine hK.out _ _ (NoPanic.normal ?_);clear hK K hat9 hnl9 hg9 ho9 kr3 kz3 kz4 kr4 hZ3 hb3;refine hexit _ _ _ _ _ _ _ _ _ _ _ _ _ _ _ _ _ _ ?_;exact⟨_,HF.out.1,HF.out.2.1,HF.out.2.2.1,HF.out.2.2.2⟩
end Go.Proofs.YtahpiciofdfipaaGreat
