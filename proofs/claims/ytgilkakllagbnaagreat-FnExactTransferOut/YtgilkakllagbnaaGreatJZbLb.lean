import Derived.Test.YtgilkakllagbnaaGreatJSer2
import Derived.Test.YtgilkakllagbnaaGreatJZrI
import Derived.Test.YtgilkakllagbnaaGreatJClone
import Derived.Test.YtgilkakllagbnaaGreatJRrM
import Derived.RegionTactic
import Derived.Deep.CutRange
import Derived.Test.YtgilkakllagbnaaGreatJParts
import Derived.Test.YtgilkakllagbnaaGreatJZnM
namespace Go.Proofs.YtgilkakllagbnaaGreat
open Go.RowKit
set_option linter.unusedVariables false
set_option maxRecDepth 1000000 in
set_option maxHeartbeats 16000000 in
theorem zone_new(its:List It)(apex fo:ByteArray)(ty tt:Int)(zb rb b off k m n lc uc:Nat)(la va:Option Addr)(vc:Nat)(ps:List Zp)(r0 r2 r4:Value)(hpl:ps.length<=500)(hn:n<=500)(HITL:Hid (its.length=n))(hkm:k<m)(hm:m<=500)(hbz:b<zb)(Q0:Exit->Act->World->Prop)(wz:World)
 (kz2:Blk wz zb #[.string apex,.slice va ps.length vc] 33) (kr2:Blk wz rb #[r0,.int .i64 ty,r2,.int .i64 tt,r4] 56) (hrz:rb≠zb) (hZ2:ZOwn wz (zb+1) (.slice va ps.length vc) ps)
 (hits:CRow wz (.slice la n lc) n 8 (itCs its)) (hfo:wz.cell? ⟨b,off+k*8+5,none⟩=some (.string fo))
 (s0 s1 s2 s3 s4 s5 s6 s8 s9 s10 s11 s12 s14 s18 s19 s20 s21 s22 s23 s24 s25 s26 s27 s28 s29 s30 s31 s32 s33 s34 s35 s36 s37 s38 s39 s40 s41 s42 s43 s44 s45 s46 s47 s48 s49 s50 s51 s52 s53 s54 s55 s56 s57 s58 s59 s60 s61 s62 s63 s64 s65 s66 s67 s68 s69 s70 s71 s72 s73 s74 s75 s76 s77 s78 s79 s80 s81 s82 s83 s84 s85 s86 s87 s88 s89 s90 s91 s92 s93 s94 s95 s96 s97 s98 s99 s100 s101 s102 s103 s104 s105 s106 s107 s108 s109 s110 s111 s112 s113 s114 s115 s116 s117 s118 s119 s120 s121 s122 s123 s124 s125 s126 s127 s128 s129 s130 s131 s132 s133 s134 s135 s136 s137 s138 s139 s140 s141 s142 s143 s144 s145 s146 s147 s148 s149 s150 s151 s152 s153 s154 s155 s156 s157 s158 s159 s160 s161 s162 s163 s164 s165 s166 s167 s168 s169 s170 s171 s172 s173 s174 s175 s176 s177 s178 s179 s180 s181 s182 s183 s184 s185 s186:Value)
 (hexit:∀ (u150 u151 u152 u153 u154 u155 u156 u157 u158 u159 u160 u161 u162 u163 u164 u165 u166:Value) (w':World),(∃ vs',Blk w' zb #[.string apex,vs'] 33∧Blk w' rb #[r0,.int .i64 ty,r2,.int .i64 tt,r4] 56∧ZOwn w' (zb+1) vs' (ps++[((⟨ownI its fo,ty,tt,[]⟩:Sz),.slice none 0 0)])∧Below zb wz w')->Q0 .normal ⟨(s0::s1::s2::s3::s4::s5::s6::.slice la n lc::s8::s9::s10::s11::s12::.slice (some ⟨b,off,none⟩) m uc::s14::.pointer (some ⟨zb,0,none⟩)::.int .i64 (k:Int)::.pointer (some ⟨rb,0,none⟩)::s18::s19::s20::s21::s22::s23::s24::s25::s26::s27::s28::s29::s30::s31::s32::s33::s34::s35::s36::s37::s38::s39::s40::s41::s42::s43::s44::s45::s46::s47::s48::s49::s50::s51::s52::s53::s54::s55::s56::s57::s58::s59::s60::s61::s62::s63::s64::s65::s66::s67::s68::s69::s70::s71::s72::s73::s74::s75::s76::s77::s78::s79::s80::s81::s82::s83::s84::s85::s86::s87::s88::s89::s90::s91::s92::s93::s94::s95::s96::s97::s98::s99::s100::s101::s102::s103::s104::s105::s106::s107::s108::s109::s110::s111::s112::s113::s114::s115::s116::s117::s118::s119::s120::s121::s122::s123::s124::s125::s126::s127::s128::s129::s130::s131::s132::s133::s134::s135::s136::s137::s138::s139::s140::s141::s142::s143::s144::s145::s146::s147::s148::s149::u150::u151::u152::u153::u154::u155::u156::u157::u158::u159::u160::u161::u162::u163::u164::u165::u166::s167::s168::s169::s170::s171::s172::s173::s174::s175::s176::s177::s178::s179::s180::s181::s182::s183::s184::s185::s186::[]).toArray,[]⟩ w'):
 Code.wp Tryz.prog bzN Q0 ⟨(s0::s1::s2::s3::s4::s5::s6::.slice la n lc::s8::s9::s10::s11::s12::.slice (some ⟨b,off,none⟩) m uc::s14::.pointer (some ⟨zb,0,none⟩)::.int .i64 (k:Int)::.pointer (some ⟨rb,0,none⟩)::s18::s19::s20::s21::s22::s23::s24::s25::s26::s27::s28::s29::s30::s31::s32::s33::s34::s35::s36::s37::s38::s39::s40::s41::s42::s43::s44::s45::s46::s47::s48::s49::s50::s51::s52::s53::s54::s55::s56::s57::s58::s59::s60::s61::s62::s63::s64::s65::s66::s67::s68::s69::s70::s71::s72::s73::s74::s75::s76::s77::s78::s79::s80::s81::s82::s83::s84::s85::s86::s87::s88::s89::s90::s91::s92::s93::s94::s95::s96::s97::s98::s99::s100::s101::s102::s103::s104::s105::s106::s107::s108::s109::s110::s111::s112::s113::s114::s115::s116::s117::s118::s119::s120::s121::s122::s123::s124::s125::s126::s127::s128::s129::s130::s131::s132::s133::s134::s135::s136::s137::s138::s139::s140::s141::s142::s143::s144::s145::s146::s147::s148::s149::s150::s151::s152::s153::s154::s155::s156::s157::s158::s159::s160::s161::s162::s163::s164::s165::s166::s167::s168::s169::s170::s171::s172::s173::s174::s175::s176::s177::s178::s179::s180::s181::s182::s183::s184::s185::s186::[]).toArray,[]⟩ wz:=by
 obtain⟨j0,hj,hy0,hy1,hy2⟩:=info_parts Tryz.infoSetZ;have hown:=fun W (hW:Below wz.heap.size wz W)=>l06Owner_any (.slice la n lc) its fo W (by rw [HITL.out];exact hits.below hW) (by rw [HITL.out];omega)
 have n1:(0:Int)<=(k:Int):=by omega
 have n2:(k:Int)<(m:Int):=by omega
 have hlz:=blk_lt kz2;have rz2:=fun i=>blk_cell kz2 i
 have rr2:=fun i=>blk_cell kr2 i
 have hwk:IntKind.i64.wrap (k:Int)=(k:Int):=Go.wrap_small _ (by omega) (by omega)
 conv=>arg 2;whnf
 refine wp_region_noPanic ?_;refine wp_region_last (fun W=>W.cell? ⟨zb,1,none⟩=some (.slice va ps.length vc)∧W.cell? ⟨b,off+k*8+5,none⟩=some (.string fo)∧W.cell? ⟨rb,1,none⟩=some (.int .i64 ty)∧W.cell? ⟨rb,3,none⟩=some (.int .i64 tt)) 17 (by kernel_rfl) ⟨rz2 1,hfo,rr2 1,rr2 3⟩ (fun hHeld=>?_);refine tkL (i:=0) (v:=?_) rfl ?_ ?_;rotate_left 1
 ·(intro W hSW;obtain⟨z0,z1,z2,z3⟩:=hSW;go_simp;try (with_reducible rfl))
 refine tkL (i:=1) (v:=?_) rfl ?_ ?_;rotate_left 1
 ·(intro W hSW;obtain⟨z0,z1,z2,z3⟩:=hSW;go_simp;try (with_reducible rfl))
 refine tkL (i:=2) (v:=?_) rfl ?_ ?_;rotate_left 1
 ·(intro W hSW;obtain⟨z0,z1,z2,z3⟩:=hSW;go_simp;try (with_reducible rfl))
 refine tkL (i:=3) (v:=?_) rfl ?_ ?_;rotate_left 1
 ·(intro W hSW;obtain⟨z0,z1,z2,z3⟩:=hSW;go_simp;try (with_reducible rfl))
 refine tkL (i:=4) (v:=?_) rfl ?_ ?_;rotate_left 1
 ·(intro W hSW;obtain⟨z0,z1,z2,z3⟩:=hSW;go_simp;try (with_reducible rfl))
 refine tkL (i:=5) (v:=?_) rfl ?_ ?_;rotate_left 1
 ·(intro W hSW;obtain⟨z0,z1,z2,z3⟩:=hSW;go_simp;try (with_reducible rfl))
 refine tkL (i:=6) (v:=?_) rfl ?_ ?_;rotate_left 1
 ·(intro W hSW;obtain⟨z0,z1,z2,z3⟩:=hSW;go_simp;try (with_reducible rfl))
 refine tkL (i:=7) (v:=?_) rfl ?_ ?_;rotate_left 1
 ·(intro W hSW;obtain⟨z0,z1,z2,z3⟩:=hSW;go_simp;try (with_reducible rfl))
 refine tkL (i:=9) (v:=?_) rfl ?_ ?_;rotate_left 1
 ·(intro W hSW;obtain⟨z0,z1,z2,z3⟩:=hSW;go_simp;try (with_reducible rfl))
 refine tkL (i:=10) (v:=?_) rfl ?_ ?_;rotate_left 1
 ·(intro W hSW;obtain⟨z0,z1,z2,z3⟩:=hSW;go_simp;try (with_reducible rfl))
 refine tkL (i:=11) (v:=?_) rfl ?_ ?_;rotate_left 1
 ·(intro W hSW;obtain⟨z0,z1,z2,z3⟩:=hSW;go_simp;try (with_reducible rfl))
 refine tkL (i:=12) (v:=?_) rfl ?_ ?_;rotate_left 1
 ·(intro W hSW;obtain⟨z0,z1,z2,z3⟩:=hSW;go_simp;try (with_reducible rfl))
 refine wpAnyL_one (i:=8) (by kernel_rfl) rfl (fun K hK=>?_);go_simp;refine(hown _ (Below.refl _ _).drew).mono ?_;rintro e wv ⟨rfl,hwv⟩;obtain rfl:=hwv;go_wp2_with fail
 refine hK.out _ _ (by assumption) (fun _=>?_);clear hK K hown;generalize ownI its fo=OW at*;refine tkL (i:=13) (v:=?_) rfl ?_ ?_;rotate_left 1
 ·(intro W hSW;obtain⟨z0,z1,z2,z3⟩:=hSW;go_simp;try (with_reducible rfl))
 have hbz1:∀ o:Obj,Below wz.heap.size wz (wz.drew.alloc o):=fun o=>(Below.refl _ _).drew.alloc (Nat.le_refl _) _
 refine wpAnyL_one (i:=14) (by kernel_rfl) rfl (fun K hK=>?_);go_simp;refine hK.out _ _ ⟨(blk_cell (blk_below kz2 (hbz1 _)) 1),((hbz1 _).cell (World.block_lt_of_cell? wz _ hfo)).trans hfo,(blk_cell (blk_below kr2 (hbz1 _)) 1),(blk_cell (blk_below kr2 (hbz1 _)) 3)⟩ (fun _=>?_);clear hK K;refine wpAnyL_one (i:=15) (by kernel_rfl) rfl (fun K hK=>?_);refine step_append_own_at rfl (.tmp 151) (.tmp 164) 31 rfl (zb+1) 90 j0 _ 4 56 Tryz.underlying31 hj hy0 hy1 hy2 rfl (by decide) _ _ _ (by rfl) (own_below hZ2.outer (hbz1 _)) ⟨wz.heap.size,0,none⟩ 1 1 [.string OW,.int .i64 ty,.int .i64 tt,.slice none 0 0] (by rfl) rfl (cell_newV _ _ _) (by intro u hu;simp at hu;rcases hu with rfl|rfl|rfl|rfl<;>rfl) (by unfold maxLen;omega) (by omega) (by simp;omega) ?_;intro vv wa ho9 hg9 hnl9 hat9;have hZ3:=((hZ2.below (hbz1 _)).snoc (s:=⟨OW,ty,tt,[]⟩) (u:=.slice none 0 0) (World.ownsRow_nil _ _ _ _) (by intro p hp g hg;simp [Value.ownBlock]) ho9 hg9);have oo:=own_below hZ2.outer (hbz1 (.cells #[.string OW,.int .i64 ty,.int .i64 tt,.slice none 0 0] 90));have kz3:=blk_grown (blk_below kz2 (hbz1 _)) hg9 (own_nbZ oo (blk_below kz2 (hbz1 _)) (by decide));have kr3:=blk_grown (blk_below kr2 (hbz1 _)) hg9 (own_nbZ oo (blk_below kr2 (hbz1 _)) (by decide));have hb3:Below (zb+1) wz wa:=((hbz1 _).mono (by omega)).grown hg9 (by simp;omega) (fun g hg=>(hZ2.outer.lt g hg).1);have hfo3:=(hb3.cell (p:=⟨b,off+k*8+5,none⟩) (by show b<zb+1;omega)).trans hfo;obtain⟨xa,xc,rfl⟩:=own_sl ho9;have r3:=fun i=>blk_cell kz3 i
 have f3:=fun i=>blk_frozen kz3 i
 refine hK.out _ _ ⟨(blk_cell kz3 1),hfo3,(blk_cell kr3 1),(blk_cell kr3 3)⟩ (fun _=>?_);clear hK K;refine tkL (i:=16) (v:=?_) rfl ?_ ?_;rotate_left 1
 ·(intro W hSW;obtain⟨z0,z1,z2,z3⟩:=hSW;go_simp;try (with_reducible rfl))
 have kz4:=blk_set kz3 1 (.slice xa (ps.length+1) xc);have kr4:=blk_far (v:=.slice xa (ps.length+1) xc) (i:=1) kr3 hrz;have HF:=Nm.hide (And.intro kz4 (And.intro kr4 (And.intro (hZ3.far (g:=zb) (i:=1) (y:=.slice xa (ps.length+1) xc) (by omega)) ((hb3.mono (Nat.le_succ _)).setCell (p:=⟨zb,1,none⟩) (Nat.le_refl _) (.slice xa (ps.length+1) xc)))));refine wpAnyL_end (by kernel_rfl) rfl (by kernel_rfl) (fun K hK=>?_);go_simp;refine hK.out _ _ (NoPanic.normal ?_);clear hK K hat9 hnl9 hg9 ho9 kr3 kz3 kz4 kr4 hZ3 hb3;refine hexit _ _ _ _ _ _ _ _ _ _ _ _ _ _ _ _ _ _ ?_;exact⟨_,HF.out.1,HF.out.2.1,HF.out.2.2.1,HF.out.2.2.2⟩
set_option maxRecDepth 1000000 in
set_option maxHeartbeats 16000000 in
theorem zone_sets(its S:List It)(apex:ByteArray)(la ua:Option Addr)(n m lc uc:Nat)(Q0:Exit->Act->World->Prop)(w5 w6:World)(hm500:m<=500)(hn500:n<=500)(HSL:Hid (S.length=m))(HITL:Hid (its.length=n))
 (HC5:Hid (CRow w5 (.slice la n lc) n 8 (itCs its)∧CRow w5 (.slice ua m uc) m 8 (itCs S))) (kz6:Blk w6 w5.heap.size #[.string apex,.slice none 0 0] 33) (b6:Below w5.heap.size w5 w6)
 (s0 s1 s2 s3 s4 s5 s6 s8 s9 s10 s11 s12 s14 s17 s18 s19 s20 s21 s22 s23 s24 s25 s26 s27 s28 s29 s30 s31 s32 s33 s34 s35 s36 s37 s38 s39 s40 s41 s42 s43 s44 s45 s46 s47 s48 s49 s50 s51 s52 s53 s54 s55 s56 s57 s58 s59 s60 s61 s62 s63 s64 s65 s66 s67 s68 s69 s70 s71 s72 s73 s74 s75 s76 s77 s78 s79 s80 s81 s82 s83 s84 s85 s86 s87 s88 s89 s90 s91 s92 s93 s94 s95 s96 s97 s98 s99 s100 s101 s102 s103 s104 s105 s106 s107 s108 s109 s110 s111 s112 s113 s114 s115 s116 s117 s118 s119 s120 s121 s122 s123 s124 s125 s126 s127 s128 s129 s130 s131 s132 s133 s134 s135 s136 s137 s138 s139 s140 s141 s142 s143 s144 s145 s146 s147 s148 s149 s150 s151 s152 s153 s154 s155 s156 s157 s158 s159 s160 s161 s162 s163 s164 s165 s166 s167 s168 s169 s170 s171 s172 s173 s174 s175 s176 s177 s178 s179 s180 s181 s182 s183 s184 s185 s186:Value)
 (hexit:∀ (u16 u17 u18 u111 u112 u113 u114 u115 u116 u117 u118 u119 u120 u121 u122 u123 u124 u125 u126 u127 u128 u129 u130 u131 u132 u133 u134 u135 u136 u137 u138 u139 u140 u141 u142 u143 u144 u145 u146 u147 u148 u149 u150 u151 u152 u153 u154 u155 u156 u157 u158 u159 u160 u161 u162 u163 u164 u165 u166 u167 u168 u169 u170 u171 u172 u173 u174 u175 u176 u177 u178 u179 u180 u181 u182 u183 u184 u185:Value) (w':World),(∃ (vs:Value) (ps:List Zp),Blk w' w5.heap.size #[.string apex,vs] 33∧ZOwn w' (w5.heap.size+1) vs ps∧ps.map (·.1)=grpK its S S.length∧Below w5.heap.size w5 w')->Q0 (.exit 4) ⟨(s0::s1::s2::s3::s4::s5::s6::.slice la n lc::s8::s9::s10::s11::s12::.slice ua m uc::s14::.pointer (some ⟨w5.heap.size,0,none⟩)::u16::u17::u18::s19::s20::s21::s22::s23::s24::s25::s26::s27::s28::s29::s30::s31::s32::s33::s34::s35::s36::s37::s38::s39::s40::s41::s42::s43::s44::s45::s46::s47::s48::s49::s50::s51::s52::s53::s54::s55::s56::s57::s58::s59::s60::s61::s62::s63::s64::s65::s66::s67::s68::s69::s70::s71::s72::s73::s74::s75::s76::s77::s78::s79::s80::s81::s82::s83::s84::s85::s86::s87::s88::s89::s90::s91::s92::s93::s94::s95::s96::s97::s98::s99::s100::s101::s102::s103::s104::s105::s106::s107::s108::s109::s110::u111::u112::u113::u114::u115::u116::u117::u118::u119::u120::u121::u122::u123::u124::u125::u126::u127::u128::u129::u130::u131::u132::u133::u134::u135::u136::u137::u138::u139::u140::u141::u142::u143::u144::u145::u146::u147::u148::u149::u150::u151::u152::u153::u154::u155::u156::u157::u158::u159::u160::u161::u162::u163::u164::u165::u166::u167::u168::u169::u170::u171::u172::u173::u174::u175::u176::u177::u178::u179::u180::u181::u182::u183::u184::u185::s186::[]).toArray,[]⟩ w'):
 Code.wp Tryz.prog (Code.loop bzL3) Q0 ⟨(s0::s1::s2::s3::s4::s5::s6::.slice la n lc::s8::s9::s10::s11::s12::.slice ua m uc::s14::.pointer (some ⟨w5.heap.size,0,none⟩)::.int .i64 0::s17::s18::s19::s20::s21::s22::s23::s24::s25::s26::s27::s28::s29::s30::s31::s32::s33::s34::s35::s36::s37::s38::s39::s40::s41::s42::s43::s44::s45::s46::s47::s48::s49::s50::s51::s52::s53::s54::s55::s56::s57::s58::s59::s60::s61::s62::s63::s64::s65::s66::s67::s68::s69::s70::s71::s72::s73::s74::s75::s76::s77::s78::s79::s80::s81::s82::s83::s84::s85::s86::s87::s88::s89::s90::s91::s92::s93::s94::s95::s96::s97::s98::s99::s100::s101::s102::s103::s104::s105::s106::s107::s108::s109::s110::s111::s112::s113::s114::s115::s116::s117::s118::s119::s120::s121::s122::s123::s124::s125::s126::s127::s128::s129::s130::s131::s132::s133::s134::s135::s136::s137::s138::s139::s140::s141::s142::s143::s144::s145::s146::s147::s148::s149::s150::s151::s152::s153::s154::s155::s156::s157::s158::s159::s160::s161::s162::s163::s164::s165::s166::s167::s168::s169::s170::s171::s172::s173::s174::s175::s176::s177::s178::s179::s180::s181::s182::s183::s184::s185::s186::[]).toArray,[]⟩ w6:=by
 conv=>arg 2;arg 1;whnf
 go_loopw [16] (fun vi wr=>∃ (k:Nat) (vs:Value) (ps:List Zp),k<=m∧vi=.int .i64 k∧Blk wr w5.heap.size #[.string apex,vs] 33∧ZOwn wr (w5.heap.size+1) vs ps∧Hid (ps.map (·.1)=grpK its S k)∧Below w5.heap.size w5 wr) (fun vi _=>m-(intOf vi).toNat)
 case atStart=>exact⟨0,_,[],Nat.zero_le _,rfl,kz6,ZOwn.nil _ _,rfl,b6⟩
 case round=>
  clear kz6 b6;obtain⟨k,vs,ps,hk,rfl,kz,hZ,HG,hbel⟩:=hrel;obtain⟨va,vc,hvs⟩:=own_sl hZ.outer;subst hvs
  by_cases hlt:k<m
  ·clear hexit;obtain⟨x,hx⟩:∃ x,S[k]? =some x:=⟨_,List.getElem?_eq_getElem (by have:=HSL.out;omega)⟩;have HM:=Nm.hide hm500
   have hcx:∀ W,Below w5.heap.size w5 W->∃ b off,ua=some ⟨b,off,none⟩∧∀ (i:Nat) (y:Value),(itCs S)[i]? =some y->W.cell? ⟨b,off+i,none⟩=some y:=by
    intro W hW;obtain⟨_,a',c',e',_,_,hc⟩:=HC5.out.2.below hW;simp only [Value.slice.injEq] at e';obtain⟨rfl,_,rfl⟩:=e';exact hc (by omega)
   obtain⟨b,off,rfl,hcell⟩:=hcx wr hbel;obtain⟨c0,c1,c2,c3,c4,c5,c6,c7⟩:=it_cells hcell hx;have n1:(0:Int)<=(k:Int):=by omega
   have n2:(k:Int)<(m:Int):=by omega
   have X:=Nm.hide (And.intro (blk_new wr #[.string x.r.own,.int .i64 x.r.ty,.int .i64 x.r.cl,.int .i64 x.r.tt,.string x.r.da] 56) ((Below.refl wr.heap.size wr).alloc (Nat.le_refl _) (.cells #[.string x.r.own,.int .i64 x.r.ty,.int .i64 x.r.cl,.int .i64 x.r.tt,.string x.r.da] 56)))
   have hps:ps.length<=k:=by
    have h1:=congrArg List.length HG.out;have h2:=(grpK_len (l:=its) (srt:=S) k (by have:=HSL.out;omega)).1;simp at h1;omega
   clear c6 c7;go_wp2;refine gen_worldZ (Pr:=fun W=>Blk W wr.heap.size #[.string x.r.own,.int .i64 x.r.ty,.int .i64 x.r.cl,.int .i64 x.r.tt,.string x.r.da] 56∧Below wr.heap.size wr W) (G:=fun W=>Code.wp _ _ _ _ W) X.out ?_;rintro wq ⟨kr,bq⟩;have kz0:=kz;have kz1:=blk_below kz bq;have hZ1:=hZ.below bq;have hb1:Below w5.heap.size w5 wq:=Nm.below_two hbel bq;clear X hcell c0 c1 c2 c3 c4 c5 kz hZ hbel bq;have hrz:wr.heap.size≠w5.heap.size:=by have:=blk_lt kz0;omega
   clear kz0;generalize wr.heap.size=rb at*;obtain⟨b',off',e',hcell⟩:=hcx wq hb1;cases e'
   obtain⟨c0,c1,c2,c3,c4,c5,c6,c7⟩:=it_cells hcell hx;have rr:=fun i=>blk_cell kr i
   clear c0 c2 c3 c4 c6 c7
   by_cases hk0:k=0
   ·have g0:((k:Int)==0)=true:=by simp [hk0]
    have HNW:Hid (newSet S k x=true):=by show _=_;rw [hk0];rfl
    clear hcell c1 c5 hk0;go_quiet (fail)
    generalize hwE:World.drewN wq _=wz;have hbq:Below wq.heap.size wq wz:=by rw [<- hwE];exact Go.below_drewN (Below.refl _ _) _
    have kz2:=blk_below kz1 hbq;have hZ2:=hZ1.below hbq;have kr2:=blk_below kr hbq;have hb2:=Nm.below_two hb1 hbq
    have HG3:Hid (∀ u':Value,(ps++[(({(⟨ownI its x.fo,x.r.ty,x.r.tt,[]⟩:Sz) with da:=[]++[x.r.da]}:Sz),u')]).map (·.1)=grpK its S (k+1)):=by
     intro u';rw [grpK_new hx HNW.out,<- HG.out];simp
    obtain⟨b',off',e',hcell⟩:=hcx wz hb2;cases e'
    obtain⟨_,_,_,_,_,hfo,_,_⟩:=it_cells hcell hx
    have hbz:b<w5.heap.size:=by
     obtain⟨b',off',e',hcell⟩:=hcx w5 (Below.refl _ _);cases e'
     obtain⟨_,_,_,_,_,hfo,_,_⟩:=it_cells hcell hx;exact World.block_lt_of_cell? w5 _ hfo
    have hits:=HC5.out.1.below hb2;have hpl:ps.length<=500:=by have:=HM.out;omega
    clear hwE hbq kz1 hZ1 kr hb1 HNW hcx hx hcell HG;go_wp2;refine zone_new its apex x.fo x.r.ty x.r.tt w5.heap.size rb b off k m n lc uc la va vc ps (.string x.r.own) (.int .i64 x.r.cl) (.string x.r.da) hpl hn500 HITL hlt hm500 hbz _ wz kz2 kr2 hrz hZ2 hits hfo _ _ _ _ _ _ _ _ _ _ _ _ _ _ _ _ _ _ _ _ _ _ _ _ _ _ _ _ _ _ _ _ _ _ _ _ _ _ _ _ _ _ _ _ _ _ _ _ _ _ _ _ _ _ _ _ _ _ _ _ _ _ _ _ _ _ _ _ _ _ _ _ _ _ _ _ _ _ _ _ _ _ _ _ _ _ _ _ _ _ _ _ _ _ _ _ _ _ _ _ _ _ _ _ _ _ _ _ _ _ _ _ _ _ _ _ _ _ _ _ _ _ _ _ _ _ _ _ _ _ _ _ _ _ _ _ _ _ _ _ _ _ _ _ _ _ _ _ _ _ _ _ _ _ _ _ _ _ _ _ _ _ _ _ _ _ _ _ _ _ _ _ _ _ _ _ _ _ _ _ _ _ ?_;rintro u150 u151 u152 u153 u154 u155 u156 u157 u158 u159 u160 u161 u162 u163 u164 u165 u166 w7 ⟨vs2,kz7,kr7,hZ7,hb7⟩;have hb7:=hb2.trans hb7;clear kz2 kr2 hZ2 hits hfo hb2
    obtain⟨g7,gc7,rfl⟩:∃ g gc,vs2=.slice (some ⟨g,0,none⟩) (ps.length+1) gc:=by
     rcases hZ7.outer.2 with⟨_,h0⟩|⟨g,gc,cur,e,_⟩
     ·simp at h0
     ·exact⟨g,gc,by rw [e];simp⟩
    have r7:=fun i=>blk_cell kz7 i
    go_wp2;refine zone_more apex x.r.da w5.heap.size rb _ ps ⟨ownI its x.fo,x.r.ty,x.r.tt,[]⟩ none 0 (.string x.r.own) (.int .i64 x.r.ty) (.int .i64 x.r.cl) (.int .i64 x.r.tt) hpl (by simp) _ w7 kz7 kr7 hZ7 _ _ _ _ _ _ _ _ _ _ _ _ _ _ _ _ _ _ _ _ _ _ _ _ _ _ _ _ _ _ _ _ _ _ _ _ _ _ _ _ _ _ _ _ _ _ _ _ _ _ _ _ _ _ _ _ _ _ _ _ _ _ _ _ _ _ _ _ _ _ _ _ _ _ _ _ _ _ _ _ _ _ _ _ _ _ _ _ _ _ _ _ _ _ _ _ _ _ _ _ _ _ _ _ _ _ _ _ _ _ _ _ _ _ _ _ _ _ _ _ _ _ _ _ _ _ _ _ _ _ _ _ _ _ _ _ _ _ _ _ _ _ _ _ _ _ _ _ _ _ _ _ _ _ _ _ _ _ _ _ _ _ _ _ _ _ _ _ _ _ _ _ _ _ _ _ _ _ _ _ _ _ _ _ ?_;rintro u171 u172 u173 u174 u175 u176 u177 u178 u179 u180 u181 u182 u183 u184 u185 w8 ⟨u8,kz8,hZ8,hb8⟩;have HF:=Nm.hide (And.intro kz8 (And.intro hZ8 (hb7.trans (hb8.mono (Nat.le_succ _)))));clear kz8 hZ8 hb8 hb7;go_wp2;go_roundw
    case rel=>exact⟨k+1,_,_,by omega,by go_num,HF.out.1,HF.out.2.1,HG3.out _,HF.out.2.2⟩
    case measure=>simp [intOf];omega
   ·obtain⟨q,hm⟩:∃ q,k=q+1:=⟨k-1,by omega⟩;obtain⟨y,hy⟩:∃ y,S[q]? =some y:=⟨_,List.getElem?_eq_getElem (by have:=HSL.out;omega)⟩;obtain⟨d0,d1,d2,d3,d4,d5,d6,d7⟩:=it_cells hcell hy;have g0:((k:Int)==0)=false:=by simp;omega
    have g1:(k:Int)-1=(q:Int):=by omega
    have g2:(0:Int)<=(q:Int):=by omega
    have hwm:IntKind.i64.wrap (q:Int)=(q:Int):=Go.wrap_small _ (by omega) (by have:=HM.out;omega);have g3:(q:Int)<(m:Int):=by omega
    have HNS:Hid (newSet S k x=(!(y.fo.toList==x.fo.toList)||(y.r.ty != x.r.ty))):=by
     show _=_
     rw [hm,newSet,hy,ba_eq]
     by_cases h:y.r.ty=x.r.ty<;>simp [h]
    clear hcell d0 d2 d3 d4 d6 d7 hy hm
    cases hE:(y.fo.toList==x.fo.toList) with
    |false=>
     have nE:(y.fo.toList != x.fo.toList)=true:=by rw [bne,hE];rfl
     have HNW:Hid (newSet S k x=true):=by show _=_;rw [HNS.out,hE];rfl
     go_quiet (fail)
     generalize hwE:World.drewN wq _=wz;have hbq:Below wq.heap.size wq wz:=by rw [<- hwE];exact Go.below_drewN (Below.refl _ _) _
     have kz2:=blk_below kz1 hbq;have hZ2:=hZ1.below hbq;have kr2:=blk_below kr hbq;have hb2:=Nm.below_two hb1 hbq
     have HG3:Hid (∀ u':Value,(ps++[(({(⟨ownI its x.fo,x.r.ty,x.r.tt,[]⟩:Sz) with da:=[]++[x.r.da]}:Sz),u')]).map (·.1)=grpK its S (k+1)):=by
      intro u';rw [grpK_new hx HNW.out,<- HG.out];simp
     obtain⟨b',off',e',hcell⟩:=hcx wz hb2;cases e'
     obtain⟨_,_,_,_,_,hfo,_,_⟩:=it_cells hcell hx
     have hbz:b<w5.heap.size:=by
      obtain⟨b',off',e',hcell⟩:=hcx w5 (Below.refl _ _);cases e'
      obtain⟨_,_,_,_,_,hfo,_,_⟩:=it_cells hcell hx;exact World.block_lt_of_cell? w5 _ hfo
     have hits:=HC5.out.1.below hb2;have hpl:ps.length<=500:=by have:=HM.out;omega
     clear hwE hbq kz1 hZ1 kr hb1 HNW hcx hx hcell HG;go_wp2;refine zone_new its apex x.fo x.r.ty x.r.tt w5.heap.size rb b off k m n lc uc la va vc ps (.string x.r.own) (.int .i64 x.r.cl) (.string x.r.da) hpl hn500 HITL hlt hm500 hbz _ wz kz2 kr2 hrz hZ2 hits hfo _ _ _ _ _ _ _ _ _ _ _ _ _ _ _ _ _ _ _ _ _ _ _ _ _ _ _ _ _ _ _ _ _ _ _ _ _ _ _ _ _ _ _ _ _ _ _ _ _ _ _ _ _ _ _ _ _ _ _ _ _ _ _ _ _ _ _ _ _ _ _ _ _ _ _ _ _ _ _ _ _ _ _ _ _ _ _ _ _ _ _ _ _ _ _ _ _ _ _ _ _ _ _ _ _ _ _ _ _ _ _ _ _ _ _ _ _ _ _ _ _ _ _ _ _ _ _ _ _ _ _ _ _ _ _ _ _ _ _ _ _ _ _ _ _ _ _ _ _ _ _ _ _ _ _ _ _ _ _ _ _ _ _ _ _ _ _ _ _ _ _ _ _ _ _ _ _ _ _ _ _ _ ?_;rintro u150 u151 u152 u153 u154 u155 u156 u157 u158 u159 u160 u161 u162 u163 u164 u165 u166 w7 ⟨vs2,kz7,kr7,hZ7,hb7⟩;have hb7:=hb2.trans hb7;clear kz2 kr2 hZ2 hits hfo hb2
     obtain⟨g7,gc7,rfl⟩:∃ g gc,vs2=.slice (some ⟨g,0,none⟩) (ps.length+1) gc:=by
      rcases hZ7.outer.2 with⟨_,h0⟩|⟨g,gc,cur,e,_⟩
      ·simp at h0
      ·exact⟨g,gc,by rw [e];simp⟩
     have r7:=fun i=>blk_cell kz7 i
     go_wp2;refine zone_more apex x.r.da w5.heap.size rb _ ps ⟨ownI its x.fo,x.r.ty,x.r.tt,[]⟩ none 0 (.string x.r.own) (.int .i64 x.r.ty) (.int .i64 x.r.cl) (.int .i64 x.r.tt) hpl (by simp) _ w7 kz7 kr7 hZ7 _ _ _ _ _ _ _ _ _ _ _ _ _ _ _ _ _ _ _ _ _ _ _ _ _ _ _ _ _ _ _ _ _ _ _ _ _ _ _ _ _ _ _ _ _ _ _ _ _ _ _ _ _ _ _ _ _ _ _ _ _ _ _ _ _ _ _ _ _ _ _ _ _ _ _ _ _ _ _ _ _ _ _ _ _ _ _ _ _ _ _ _ _ _ _ _ _ _ _ _ _ _ _ _ _ _ _ _ _ _ _ _ _ _ _ _ _ _ _ _ _ _ _ _ _ _ _ _ _ _ _ _ _ _ _ _ _ _ _ _ _ _ _ _ _ _ _ _ _ _ _ _ _ _ _ _ _ _ _ _ _ _ _ _ _ _ _ _ _ _ _ _ _ _ _ _ _ _ _ _ _ _ _ _ ?_;rintro u171 u172 u173 u174 u175 u176 u177 u178 u179 u180 u181 u182 u183 u184 u185 w8 ⟨u8,kz8,hZ8,hb8⟩;have HF:=Nm.hide (And.intro kz8 (And.intro hZ8 (hb7.trans (hb8.mono (Nat.le_succ _)))));clear kz8 hZ8 hb8 hb7;go_wp2;go_roundw
     case rel=>exact⟨k+1,_,_,by omega,by go_num,HF.out.1,HF.out.2.1,HG3.out _,HF.out.2.2⟩
     case measure=>simp [intOf];omega
    |true=>
     have nE:(y.fo.toList != x.fo.toList)=false:=by rw [bne,hE];rfl
     cases hT:(y.r.ty != x.r.ty) with
     |true=>
      have HNW:Hid (newSet S k x=true):=by show _=_;rw [HNS.out,hE,hT];rfl
      go_quiet (fail)
      generalize hwE:World.drewN wq _=wz;have hbq:Below wq.heap.size wq wz:=by rw [<- hwE];exact Go.below_drewN (Below.refl _ _) _
      have kz2:=blk_below kz1 hbq;have hZ2:=hZ1.below hbq;have kr2:=blk_below kr hbq;have hb2:=Nm.below_two hb1 hbq
      have HG3:Hid (∀ u':Value,(ps++[(({(⟨ownI its x.fo,x.r.ty,x.r.tt,[]⟩:Sz) with da:=[]++[x.r.da]}:Sz),u')]).map (·.1)=grpK its S (k+1)):=by
       intro u';rw [grpK_new hx HNW.out,<- HG.out];simp
      obtain⟨b',off',e',hcell⟩:=hcx wz hb2;cases e'
      obtain⟨_,_,_,_,_,hfo,_,_⟩:=it_cells hcell hx
      have hbz:b<w5.heap.size:=by
       obtain⟨b',off',e',hcell⟩:=hcx w5 (Below.refl _ _);cases e'
       obtain⟨_,_,_,_,_,hfo,_,_⟩:=it_cells hcell hx;exact World.block_lt_of_cell? w5 _ hfo
      have hits:=HC5.out.1.below hb2;have hpl:ps.length<=500:=by have:=HM.out;omega
      clear hwE hbq kz1 hZ1 kr hb1 HNW hcx hx hcell HG;go_wp2;refine zone_new its apex x.fo x.r.ty x.r.tt w5.heap.size rb b off k m n lc uc la va vc ps (.string x.r.own) (.int .i64 x.r.cl) (.string x.r.da) hpl hn500 HITL hlt hm500 hbz _ wz kz2 kr2 hrz hZ2 hits hfo _ _ _ _ _ _ _ _ _ _ _ _ _ _ _ _ _ _ _ _ _ _ _ _ _ _ _ _ _ _ _ _ _ _ _ _ _ _ _ _ _ _ _ _ _ _ _ _ _ _ _ _ _ _ _ _ _ _ _ _ _ _ _ _ _ _ _ _ _ _ _ _ _ _ _ _ _ _ _ _ _ _ _ _ _ _ _ _ _ _ _ _ _ _ _ _ _ _ _ _ _ _ _ _ _ _ _ _ _ _ _ _ _ _ _ _ _ _ _ _ _ _ _ _ _ _ _ _ _ _ _ _ _ _ _ _ _ _ _ _ _ _ _ _ _ _ _ _ _ _ _ _ _ _ _ _ _ _ _ _ _ _ _ _ _ _ _ _ _ _ _ _ _ _ _ _ _ _ _ _ _ _ ?_;rintro u150 u151 u152 u153 u154 u155 u156 u157 u158 u159 u160 u161 u162 u163 u164 u165 u166 w7 ⟨vs2,kz7,kr7,hZ7,hb7⟩;have hb7:=hb2.trans hb7;clear kz2 kr2 hZ2 hits hfo hb2
      obtain⟨g7,gc7,rfl⟩:∃ g gc,vs2=.slice (some ⟨g,0,none⟩) (ps.length+1) gc:=by
       rcases hZ7.outer.2 with⟨_,h0⟩|⟨g,gc,cur,e,_⟩
       ·simp at h0
       ·exact⟨g,gc,by rw [e];simp⟩
      have r7:=fun i=>blk_cell kz7 i
      go_wp2;refine zone_more apex x.r.da w5.heap.size rb _ ps ⟨ownI its x.fo,x.r.ty,x.r.tt,[]⟩ none 0 (.string x.r.own) (.int .i64 x.r.ty) (.int .i64 x.r.cl) (.int .i64 x.r.tt) hpl (by simp) _ w7 kz7 kr7 hZ7 _ _ _ _ _ _ _ _ _ _ _ _ _ _ _ _ _ _ _ _ _ _ _ _ _ _ _ _ _ _ _ _ _ _ _ _ _ _ _ _ _ _ _ _ _ _ _ _ _ _ _ _ _ _ _ _ _ _ _ _ _ _ _ _ _ _ _ _ _ _ _ _ _ _ _ _ _ _ _ _ _ _ _ _ _ _ _ _ _ _ _ _ _ _ _ _ _ _ _ _ _ _ _ _ _ _ _ _ _ _ _ _ _ _ _ _ _ _ _ _ _ _ _ _ _ _ _ _ _ _ _ _ _ _ _ _ _ _ _ _ _ _ _ _ _ _ _ _ _ _ _ _ _ _ _ _ _ _ _ _ _ _ _ _ _ _ _ _ _ _ _ _ _ _ _ _ _ _ _ _ _ _ _ _ ?_;rintro u171 u172 u173 u174 u175 u176 u177 u178 u179 u180 u181 u182 u183 u184 u185 w8 ⟨u8,kz8,hZ8,hb8⟩;have HF:=Nm.hide (And.intro kz8 (And.intro hZ8 (hb7.trans (hb8.mono (Nat.le_succ _)))));clear kz8 hZ8 hb8 hb7;go_wp2;go_roundw
      case rel=>exact⟨k+1,_,_,by omega,by go_num,HF.out.1,HF.out.2.1,HG3.out _,HF.out.2.2⟩
      case measure=>simp [intOf];omega
     |false=>
      have HNW:Hid (newSet S k x=false):=by show _=_;rw [HNS.out,hE,hT];rfl
      go_quiet (fail)
      generalize hwE:World.drewN wq _=wz;have hbq:Below wq.heap.size wq wz:=by rw [<- hwE];exact Go.below_drewN (Below.refl _ _) _
      have kz2:=blk_below kz1 hbq;have hZ2:=hZ1.below hbq;have kr2:=blk_below kr hbq;have hb2:=Nm.below_two hb1 hbq;obtain⟨qs,s,hqs⟩:=grpK_last (l:=its) (srt:=S) k (by omega) (by have:=HSL.out;omega);have HD:Hid (s.da.length<=k):=(grpK_len (l:=its) (srt:=S) k (by have:=HSL.out;omega)).2 s (by rw [hqs];simp)
      obtain⟨ps0,u,rfl,hq0⟩:∃ ps0 u,ps=ps0++[(s,u)]∧ps0.map (·.1)=qs:=by
       have h1:=HG.out;rw [hqs] at h1
       rcases List.eq_nil_or_concat ps with h|⟨ps0,p,h⟩
       ·subst h;simp at h1
       ·subst h;simp only [List.concat_eq_append,List.map_append,List.map_cons,List.map_nil] at h1;obtain⟨h2,h3⟩:=List.append_inj' h1 rfl;simp at h3;exact⟨ps0,p.2,by simp [<- h3],h2⟩
      have HG3:Hid (∀ u':Value,(ps0++[(({s with da:=s.da++[x.r.da]}:Sz),u')]).map (·.1)=grpK its S (k+1)):=by
       intro u';rw [grpK_old hx HNW.out hqs,<- hq0];simp
      obtain⟨ux,uc,hu⟩:=own_sl (hZ2.inner ps0.length (s,u) (by simp));have hu2:u=.slice ux s.da.length uc:=hu;subst hu2;clear hu;have HPS:Hid (ps0.length+1<=k):=by show _<=_;simpa using hps
      clear hps;generalize hv2:Value.slice va (ps0++[(s,Value.slice ux s.da.length uc)]).length vc=vs2 at*;clear hwE hbq kz1 hZ1 kr hb1 HNW HNS hqs hq0 rr c1 c5 d1 d5 nE hT hE g0 g1 HG hx hk0
      obtain⟨g7,gc7,rfl⟩:∃ g gc,vs2=.slice (some ⟨g,0,none⟩) (ps0.length+1) gc:=by
       rcases hZ2.outer.2 with⟨_,h0⟩|⟨g,gc,cur,e,_⟩
       ·simp at h0
       ·exact⟨g,gc,by rw [e];simp⟩
      have r7:=fun i=>blk_cell kz2 i
      have hpl0:ps0.length<=500:=by have:=HM.out;have:=HPS.out;omega
      go_wp2;refine zone_more apex x.r.da w5.heap.size rb _ ps0 s ux uc (.string x.r.own) (.int .i64 x.r.ty) (.int .i64 x.r.cl) (.int .i64 x.r.tt) hpl0 (by have:=HD.out;have:=HM.out;omega) _ wz kz2 kr2 hZ2 _ _ _ _ _ _ _ _ _ _ _ _ _ _ _ _ _ _ _ _ _ _ _ _ _ _ _ _ _ _ _ _ _ _ _ _ _ _ _ _ _ _ _ _ _ _ _ _ _ _ _ _ _ _ _ _ _ _ _ _ _ _ _ _ _ _ _ _ _ _ _ _ _ _ _ _ _ _ _ _ _ _ _ _ _ _ _ _ _ _ _ _ _ _ _ _ _ _ _ _ _ _ _ _ _ _ _ _ _ _ _ _ _ _ _ _ _ _ _ _ _ _ _ _ _ _ _ _ _ _ _ _ _ _ _ _ _ _ _ _ _ _ _ _ _ _ _ _ _ _ _ _ _ _ _ _ _ _ _ _ _ _ _ _ _ _ _ _ _ _ _ _ _ _ _ _ _ _ _ _ _ _ _ _ ?_;have hb7:=hb2;rintro u171 u172 u173 u174 u175 u176 u177 u178 u179 u180 u181 u182 u183 u184 u185 w8 ⟨u8,kz8,hZ8,hb8⟩;have HF:=Nm.hide (And.intro kz8 (And.intro hZ8 (hb7.trans (hb8.mono (Nat.le_succ _)))));clear kz8 hZ8 hb8 hb7;go_wp2;go_roundw
      case rel=>exact⟨k+1,_,_,by omega,by go_num,HF.out.1,HF.out.2.1,HG3.out _,HF.out.2.2⟩
      case measure=>simp [intOf];omega
  ·obtain rfl:k=m:=by omega
   have n4:(k:Int)<=(k:Int):=by omega
   go_wp2;exact⟨_,ps,kz,hZ,by rw [HSL.out];exact HG.out,hbel⟩
theorem set_same{w:World}{g i:Nat}{v:Value}{cs:Array Value}{T:TypeId}(h:Blk w g cs T)(hv:cs[i]? =some v):w.setCell ⟨g,i,none⟩ v=w:=by
 have e:(w.setCell ⟨g,i,none⟩ v).heap=w.heap:=by
  apply Array.ext_getElem?;intro k
  by_cases hk:k=g
  ·subst hk
   have hc:cs.setIfInBounds i v=cs:=by
    apply Array.ext_getElem?;intro j;rw [Array.getElem?_setIfInBounds];split
    ·rename_i e;subst e;obtain⟨hi,_⟩:=Array.getElem?_eq_some_iff.1 hv;rw [if_pos hi,hv]
    ·rfl
   rw [heap_setCell_same w k i cs T v h,h,hc]
  ·exact heap_setCell_other w ⟨g,i,none⟩ k _ hk
 show({w with heap:=(w.setCell ⟨g,i,none⟩ v).heap}:World)=w
 rw [e]
theorem own_row{w:World}{B n:Nat}{v:Value}{xs:List Rr}(h:w.ownsRow B 56 5 v n (rvVs xs))(hx:xs.length=n)(hp:0<n):∃ g cap cur,v=.slice (some ⟨g,0,none⟩) n cap∧B<=g∧n<=cap∧cap<=maxLen∧Blk w g cur 56∧∀ (k j:Nat) (x:Rr),xs[k]? =some x->j<5->cur[k*5+j]? =[Value.string x.own,.int .i64 x.ty,.int .i64 x.cl,.int .i64 x.tt,.string x.da][j]? :=by
 rcases h.2 with⟨_,h0⟩|⟨g,cap,cur,rfl,hb,hh,hnc,hcm,hcs,htk⟩
 ·omega
 ·refine⟨g,cap,cur,rfl,hb,hnc,hcm,hh,fun k j x hk hj=>?_⟩;have hkl:=(List.getElem?_eq_some_iff.1 hk).1;have h1:=rvVs_at xs k j x hk hj;rw [<- htk,List.getElem?_take_of_lt (by omega)] at h1;show cur[k*5+j]? =(rvV x)[j]?
  rw [<- h1];simp
set_option maxRecDepth 100000 in
set_option maxHeartbeats 3200000 in
theorem cloneRecords_any(v:Value)(xs:List Rr)(w:World)(h:CRow w v xs.length 5 (rvVs xs))(hl:xs.length<=1048576)(hs:∀ r∈xs,r.own.size<=1048576∧r.da.size<=1048576):
 Calls Tryz.prog 65 #[v] w fun e w'=>∃ u,e=.returned u∧w'.ownsRow w.heap.size 56 5 u xs.length (rvVs xs)∧Below w.heap.size w w':=by
 have hcl:=cloneRR_any v xs w h hl;obtain⟨_,a,cap,rfl,_⟩:=h;go_enter Tryz.func65,Tryz.ntmps65;go_wp2_with fail
 refine hcl.mono ?_;rintro e w1 ⟨u,rfl,ho1,b1⟩;obtain⟨ua,uc,rfl⟩:=own_sl ho1;clear hcl;go_wp2_with fail
 go_loopw [10] (fun i wr=>∃ k:Nat,k<=xs.length∧i=.int .i64 k∧wr.ownsRow w.heap.size 56 5 (.slice ua xs.length uc) xs.length (rvVs xs)∧Below w.heap.size w wr) (fun i _=>xs.length-(intOf i).toNat)
 case atStart=>exact⟨0,Nat.zero_le _,rfl,ho1,b1⟩
 case round=>
  clear ho1 b1;obtain⟨k,hk,rfl,hown,hbel⟩:=hrel
  by_cases hlt:k<xs.length
  ·obtain⟨x,hxk⟩:∃ x,xs[k]? =some x:=⟨_,List.getElem?_eq_getElem hlt⟩;obtain⟨g,cp,cur,ev,hBg,hnc,hcm,hblk,hcur⟩:=own_row hown rfl (by omega);simp only [Value.slice.injEq] at ev;obtain⟨rfl,_,rfl⟩:=ev;have q0:=hcur k 0 x hxk (by decide);have q1:=hcur k 1 x hxk (by decide);have q2:=hcur k 2 x hxk (by decide);have q3:=hcur k 3 x hxk (by decide);have q4:=hcur k 4 x hxk (by decide);have hsx:=hs x (List.mem_of_getElem? hxk);have c0:=(blk_cell hblk (k*5+0)).trans q0;have c1:=(blk_cell hblk (k*5+1)).trans q1;have c2:=(blk_cell hblk (k*5+2)).trans q2;have c3:=(blk_cell hblk (k*5+3)).trans q3;have c4:=(blk_cell hblk (k*5+4)).trans q4;simp at c0 c1 c2 c3 c4 q0 q4;have i1:(0:Int)<=(k:Int):=by omega
   have i2:(k:Int)<(xs.length:Int):=by omega
   have hgw:=blk_lt hblk;have bA:=(Below.refl wr.heap.size wr).alloc (Nat.le_refl _) (.cells #[.string x.own,.int .i64 x.ty,.int .i64 x.cl,.int .i64 x.tt,.string x.da] 56);have kR:=blk_new wr #[.string x.own,.int .i64 x.ty,.int .i64 x.cl,.int .i64 x.tt,.string x.da] 56;have hbA:=Nm.below_two hbel bA;have hoA:=own_below hown bA;have hkA:=blk_below hblk bA;have hc1:=fun W=>clone_any x.own W (by omega)
   have hc2:=fun W=>clone_any x.da W (by omega)
   have HQ:=Nm.hide (And.intro q0 q4);clear hcur q1 q2 q3 q0 q4 hxk hown hbel hblk;obtain⟨o,ty,cl,tt,da⟩:=x;simp only at c0 c1 c2 c3 c4 bA kR hbA hoA hkA hc1 hc2 HQ
   go_wp2;refine wp_region_last (S:=fun W=>Blk W wr.heap.size #[.string o,.int .i64 ty,.int .i64 cl,.int .i64 tt,.string da] 56∧Blk W g cur 56) (L:=1000) (by kernel_rfl) ⟨blk_below kR (Below.refl _ _).drew,blk_below hkA (Below.refl _ _).drew⟩ (fun hH=>?_);refine tkL (i:=0) (v:=?_) rfl ?_ ?_;rotate_left 1
   ·(intro w hSw;obtain⟨s1,s2⟩:=hSw;have t0:=(blk_cell s1 0).trans rfl;have t4:=(blk_cell s1 4).trans rfl;go_simp;try (with_reducible rfl))
   refine tkL (i:=1) (v:=?_) rfl ?_ ?_;rotate_left 1
   ·(intro w hSw;obtain⟨s1,s2⟩:=hSw;have t0:=(blk_cell s1 0).trans rfl;have t4:=(blk_cell s1 4).trans rfl;go_simp;try (with_reducible rfl))
   refine tkL (i:=2) (v:=?_) rfl ?_ ?_;rotate_left 1
   ·(intro w hSw;obtain⟨s1,s2⟩:=hSw;have t0:=(blk_cell s1 0).trans rfl;have t4:=(blk_cell s1 4).trans rfl;go_simp;try (with_reducible rfl))
   refine tkL (i:=3) (v:=?_) rfl ?_ ?_;rotate_left 1
   ·(intro w hSw;obtain⟨s1,s2⟩:=hSw;have t0:=(blk_cell s1 0).trans rfl;have t4:=(blk_cell s1 4).trans rfl;go_simp;try (with_reducible rfl))
   refine tkL (i:=4) (v:=?_) rfl ?_ ?_;rotate_left 1
   ·(intro w hSw;obtain⟨s1,s2⟩:=hSw;have t0:=(blk_cell s1 0).trans rfl;have t4:=(blk_cell s1 4).trans rfl;go_simp;try (with_reducible rfl))
   refine tkL (i:=5) (v:=?_) rfl ?_ ?_;rotate_left 1
   ·(intro w hSw;obtain⟨s1,s2⟩:=hSw;have t0:=(blk_cell s1 0).trans rfl;have t4:=(blk_cell s1 4).trans rfl;go_simp;try (with_reducible rfl))
   refine tkL (i:=7) (v:=?_) rfl ?_ ?_;rotate_left 1
   ·(intro w hSw;obtain⟨s1,s2⟩:=hSw;have t0:=(blk_cell s1 0).trans rfl;have t4:=(blk_cell s1 4).trans rfl;go_simp;try (with_reducible rfl))
   refine tkL (i:=8) (v:=?_) rfl ?_ ?_;rotate_left 1
   ·(intro w hSw;obtain⟨s1,s2⟩:=hSw;have t0:=(blk_cell s1 0).trans rfl;have t4:=(blk_cell s1 4).trans rfl;go_simp;try (with_reducible rfl))
   refine wpAnyL_one (i:=6) (by kernel_rfl) rfl (fun K hK'=>?_);go_simp;refine(hc1 _).mono ?_;rintro e w8 ⟨rfl,b8⟩;have b8':=(Below.refl _ (wr.alloc (.cells #[.string o,.int .i64 ty,.int .i64 cl,.int .i64 tt,.string da] 56))).drew.trans b8;have kR8:=blk_below kR b8';have hk8:=blk_below hkA b8';have hb8:=Nm.below_two hbA b8';have ho8:=own_below hoA b8';clear b8 b8' kR hkA hbA hoA hc1 c0 c1 c2 c3 c4 bA;go_wp2_with fail
   refine hK'.out _ _ ⟨kR8,hk8⟩ (fun hH=>?_);clear hK' K;refine wpAnyL_one (i:=9) (by kernel_rfl) rfl (fun K hK'=>?_);go_simp;refine(hc2 _).mono ?_;rintro e w9 ⟨rfl,b9⟩;have kR9:=blk_below kR8 b9;have hk9:=blk_below hk8 b9;have hb9:=Nm.below_two hb8 b9;have ho9:=own_below ho8 b9;clear b9 kR8 hk8 hb8 ho8 hc2;go_wp2_with fail
   refine hK'.out _ _ ⟨kR9,hk9⟩ (fun hH=>?_);clear hK' K;refine tkL (i:=10) (v:=?_) rfl ?_ ?_;rotate_left 1
   ·(intro w hSw;obtain⟨s1,s2⟩:=hSw;have t0:=(blk_cell s1 0).trans rfl;have t4:=(blk_cell s1 4).trans rfl;go_simp;try (with_reducible rfl))
   refine tkL (i:=11) (v:=?_) rfl ?_ ?_;rotate_left 1
   ·(intro w hSw;obtain⟨s1,s2⟩:=hSw;have t0:=(blk_cell s1 0).trans rfl;have t4:=(blk_cell s1 4).trans rfl;go_simp;try (with_reducible rfl))
   have z0:=(blk_cell hk9 (k*5)).trans HQ.out.1;have y0:=blk_frozen hk9 (k*5);have HS0:=Nm.hide (set_same hk9 HQ.out.1);have HS4:=Nm.hide (set_same hk9 HQ.out.2);refine wpAnyL_one (i:=12) (by kernel_rfl) rfl (fun K hK'=>?_);go_simp;rw [HS0.out];refine hK'.out _ _ ⟨kR9,hk9⟩ (fun hH=>?_);clear hK' K z0 y0 HS0;refine tkL (i:=13) (v:=?_) rfl ?_ ?_;rotate_left 1
   ·(intro w hSw;obtain⟨s1,s2⟩:=hSw;have t0:=(blk_cell s1 0).trans rfl;have t4:=(blk_cell s1 4).trans rfl;go_simp;try (with_reducible rfl))
   refine tkL (i:=14) (v:=?_) rfl ?_ ?_;rotate_left 1
   ·(intro w hSw;obtain⟨s1,s2⟩:=hSw;have t0:=(blk_cell s1 0).trans rfl;have t4:=(blk_cell s1 4).trans rfl;go_simp;try (with_reducible rfl))
   have z4:=(blk_cell hk9 (k*5+4)).trans HQ.out.2;have y4:=blk_frozen hk9 (k*5+4);refine wpAnyL_one (i:=15) (by kernel_rfl) rfl (fun K hK'=>?_);go_simp;rw [HS4.out];refine hK'.out _ _ ⟨kR9,hk9⟩ (fun hH=>?_);clear hK' K;refine wpAnyL_done (by kernel_rfl) ?_;clear hH;go_wp2_with fail
   go_roundw
   case rel=>exact⟨k+1,by omega,by go_num,ho9,hb9⟩
   case measure=>simp [intOf];omega
  ·have i2:¬(k:Int)<(xs.length:Int):=by omega
   go_wp2;go_ret;exact⟨_,rfl,hown,hbel⟩
set_option maxRecDepth 100000 in
set_option maxHeartbeats 3200000 in
theorem heldRRS_any(v:Value)(n k:Nat)(w:World)(h:CRow w v n 5 (mkL mkR k (n*5)))(hn:n<=1000000)(hk:k<=10000000):
 Calls Tryz.prog 16 #[v,.int .i64 (k:Int)] w fun e w'=>e=.returned (.int .i64 ((k+n*5:Nat):Int))∧Below w.heap.size w w':=by
 obtain⟨_,a,cap,rfl,hcap,hmx,hc⟩:=h;go_enter Tryz.func16,Tryz.ntmps16;go_wp2
 go_loopw [1,5] (fun t i wr=>∃ j:Nat,j<=n∧i=.int .i64 (j:Int)∧t=.int .i64 ((k+j*5:Nat):Int)∧Below w.heap.size w wr)
  (fun _ i _=>n-(intOf i).toNat)
 case atStart=>exact⟨0,Nat.zero_le _,rfl,rfl,Below.refl _ _⟩
 case round=>
  obtain⟨j,hj,rfl,rfl,hbel⟩:=hrel
  by_cases hlt:j<n
  ·obtain⟨b,off,rfl,hcell⟩:=hc (by omega);have m0:mkR k (j*5)=.string (mkS (k+j*5)):=by rw [mkR,if_pos (by omega)]
   have m1:mkR k (j*5+1)=.int .i64 ((k:Int)+(j:Int)*5+1):=by rw [mkR,if_neg (by omega)];congr 1<;>omega
   have m2:mkR k (j*5+2)=.int .i64 ((k:Int)+(j:Int)*5+1+1):=by rw [mkR,if_neg (by omega)];congr 1<;>omega
   have m3:mkR k (j*5+3)=.int .i64 ((k:Int)+(j:Int)*5+1+1+1):=by rw [mkR,if_neg (by omega)];congr 1<;>omega
   have m4:mkR k (j*5+4)=.string (mkS (k+j*5+1+1+1+1)):=by rw [mkR,if_pos (by omega)];congr 1
   have hc0:=hcell (j*5) _ (mkL_get (by omega));have hc1:=hcell (j*5+1) _ (mkL_get (by omega));have hc2:=hcell (j*5+2) _ (mkL_get (by omega));have hc3:=hcell (j*5+3) _ (mkL_get (by omega));have hc4:=hcell (j*5+4) _ (mkL_get (by omega));rw [m0] at hc0;rw [m1,<- Nat.add_assoc] at hc1;rw [m2,<- Nat.add_assoc] at hc2;rw [m3,<- Nat.add_assoc] at hc3;rw [m4,<- Nat.add_assoc] at hc4;have hS:∀ W,Below w.heap.size w W->W.cell? ⟨b,off+j*5,none⟩=some (.string (mkS (k+j*5)))∧Below w.heap.size w W:=fun W hW=>⟨(hW.cell (World.block_lt_of_cell? w _ hc0)).trans hc0,hW⟩
   have hT:∀ W,Below w.heap.size w W->W.cell? ⟨b,off+j*5+4,none⟩=some (.string (mkS (k+j*5+1+1+1+1)))∧Below w.heap.size w W:=fun W hW=>⟨(hW.cell (World.block_lt_of_cell? w _ hc4)).trans hc4,hW⟩
   have hS12:∀ W,Below w.heap.size w W->W.cell? ⟨b,off+j*5+1,none⟩=some (.int .i64 ((k:Int)+(j:Int)*5+1))∧W.cell? ⟨b,off+j*5+2,none⟩=some (.int .i64 ((k:Int)+(j:Int)*5+1+1))∧W.cell? ⟨b,off+j*5+3,none⟩=some (.int .i64 ((k:Int)+(j:Int)*5+1+1+1)):=fun W hW=>⟨(hW.cell (World.block_lt_of_cell? w _ hc1)).trans hc1,(hW.cell (World.block_lt_of_cell? w _ hc2)).trans hc2,(hW.cell (World.block_lt_of_cell? w _ hc3)).trans hc3⟩
   have hS0:=hS wr.drew hbel.drew;have hmt:=fun W (hW:Below w.heap.size w W)=>(markText_any (k+j*5) W (by omega)).mono (R':=fun e w'=>e=.returned (.string (mkS (k+j*5)))∧Below w.heap.size w w') (by rintro e w' ⟨he,hb⟩;exact⟨he,hW.trans (hb.mono hW.size)⟩)
   rw [show(((k+j*5:Nat)):Int)=(k:Int)+(j:Int)*5 by omega] at hmt;have hmu:=fun W (hW:Below w.heap.size w W)=>(markText_any (k+j*5+1+1+1+1) W (by omega)).mono (R':=fun e w'=>e=.returned (.string (mkS (k+j*5+1+1+1+1)))∧Below w.heap.size w w') (by rintro e w' ⟨he,hb⟩;exact⟨he,hW.trans (hb.mono hW.size)⟩)
   rw [show(((k+j*5+1+1+1+1:Nat)):Int)=(k:Int)+(j:Int)*5+1+1+1+1 by omega] at hmu;obtain⟨e3,e4⟩:=mr_ne (mkS (k+j*5));obtain⟨e5,e6⟩:=mr_ne (mkS (k+j*5+1+1+1+1));have hne:((k:Int)+(j:Int)*5+1 != (k:Int)+(j:Int)*5+1)=false:=by simp
   have hne2:((k:Int)+(j:Int)*5+1+1 != (k:Int)+(j:Int)*5+1+1)=false:=by simp
   have hne3:((k:Int)+(j:Int)*5+1+1+1 != (k:Int)+(j:Int)*5+1+1+1)=false:=by simp
   have i1:(0:Int)<=(j:Int):=by omega
   have i2:(j:Int)<(n:Int):=by omega
   generalize mkS (k+j*5)=ms at*;generalize mkS (k+j*5+1+1+1+1)=mt at*;clear hc hcell m0 m1 m2 m3 m4 hc0 hc1 hc2 hc3 hc4;go_wp2;go_region_held3 (fun W=>W.cell? ⟨b,off+j*5,none⟩=some (.string ms)∧Below w.heap.size w W) (first|with_reducible assumption|with_reducible exact hS0) ((first|(go_at_call 41;with_reducible refine(hmt _ hS0.2).mono ?_;rintro e w1 ⟨rfl,hb1⟩;have hS1:=hS _ hb1)))
   obtain⟨g1,g2,g3⟩:=hS12 _ hS1.2;have hT0:=hT w1.drew hS1.2.drew;go_wp2;go_region_held3 (fun W=>W.cell? ⟨b,off+j*5+4,none⟩=some (.string mt)∧Below w.heap.size w W) (first|with_reducible assumption|with_reducible exact hT0) ((first|(go_at_call 41;with_reducible refine(hmu _ hT0.2).mono ?_;rintro e w2 ⟨rfl,hb2⟩;have hT1:=hT _ hb2)))
   go_wp2;go_roundw
   case rel=>exact⟨j+1,by omega,by go_num,by go_num,hT1.2⟩
   case measure=>simp [intOf];omega
  ·have hje:j=n:=by omega
   subst hje;clear hc;go_wp2;go_ret;exact⟨rfl,hbel⟩
set_option maxRecDepth 100000 in
set_option maxHeartbeats 800000 in
theorem szSet_any(s:Sz)(dv:Value)(L:Int)(w:World)(h:Nm.SRow w dv s.da)(h0:0<=L)(h1:L<=1048576)(ho:s.own.size<=maxLen)(hd:∀ x∈s.da,x.size<=maxLen):
 Calls Tryz.prog 42 #[.agg #[.string s.own,.int .i64 s.ty,.int .i64 s.tt,dv],.int .i64 L] w fun e w'=>e=.returned (.int .i64 (szZ1 s L))∧Below w.heap.size w w':=by
 unfold maxLen at ho;have hB:=(Below.refl w.heap.size w).alloc (Nat.le_refl _) (.cells #[.string s.own,.int .i64 s.ty,.int .i64 s.tt,dv] 80);have hcall:=fun K h0 h1=>szStringS_any dv s.da K _ (h.below hB) hd h0 h1
 obtain⟨a,cap,rfl,_⟩:=h;obtain⟨o,ty,tt,da⟩:=s;simp only at*
 by_cases hm:L-o.size<0
 ·have HS:Hid (szZ1 ⟨o,ty,tt,da⟩ L= -1):=if_neg (by simp only [zs1];omega);clear hcall hd;go_enter Tryz.func42,Tryz.ntmps42;go_wp2;go_ret;rw [HS.out];exact⟨rfl,hB⟩
 ·have hm':0<=L-o.size:=by omega
  have hone:=hcall (L-o.size) hm' (by omega);clear hcall hd
  by_cases hn:(da.length:Int)+(ssum da:Int)<=L-o.size
  ·have HS:Hid (szZ1 ⟨o,ty,tt,da⟩ L=L-o.size-da.length-ssum da):=by
    show _=_
    rw [szZ1,if_pos (by simp only [zs1];omega)];simp only [zs1];omega
   have e1:szS da (L-o.size)=L-o.size-da.length-ssum da:=if_pos hn;have hnn:0<=L-o.size-da.length-ssum da:=by omega
   rw [e1] at hone;clear e1 hn;generalize (L-(o.size:Int)-(da.length:Int)-(ssum da:Int))=L2 at*;go_enter Tryz.func42,Tryz.ntmps42;go_wp2_with (go_at_call 69;refine hone.mono ?_;rintro e w1 ⟨rfl,rfl⟩)
   go_ret;rw [HS.out];exact⟨rfl,hB⟩
  ·have HS:Hid (szZ1 ⟨o,ty,tt,da⟩ L= -1):=if_neg (by simp only [zs1];omega);have e1:szS da (L-o.size)= -1:=if_neg hn;rw [e1] at hone;clear e1 hn;go_enter Tryz.func42,Tryz.ntmps42;go_wp2_with (go_at_call 69;refine hone.mono ?_;rintro e w1 ⟨rfl,rfl⟩)
   go_ret;rw [HS.out];exact⟨rfl,hB⟩
set_option maxRecDepth 100000 in
set_option maxHeartbeats 1600000 in
theorem szSetS_any(v:Value)(ps:List Zp)(L:Int)(w:World)(h:ZRow w v ps)(hx:ZFit ps)(h0:0<=L)(h1:L<=1048576):
 Calls Tryz.prog 17 #[v,.int .i64 L] w fun e w'=>e=.returned (.int .i64 (szZS ps L))∧Below w.heap.size w w':=by
 obtain⟨⟨_,a,cap,rfl,hcap,hmx,hc⟩,hd⟩:=h;unfold maxLen at hmx
 by_cases hm:L<ps.length
 ·have HS:Hid (szZS ps L= -1):=if_neg (by omega);have hm':L-(ps.length:Int)<0:=by omega
  clear hx hc hd;go_enter Tryz.func17,Tryz.ntmps17;go_wp2;go_ret;rw [HS.out];exact⟨rfl,Below.refl _ _⟩
 ·have hl:(ps.length:Int)<=1048576:=by omega
  have hm':(0:Int)<=L-(ps.length:Int):=by omega
  have hsz:=fun(p:Zp) (hp:p∈ps) (K:Int) (W:World) (hW:Below w.heap.size w W) (h0:0<=K) (h1:K<=1048576)=>szSet_any p.1 p.2 K W ((hd p hp).below hW) h0 h1 (hx p hp).1 (hx p hp).2
  clear hd;go_enter Tryz.func17,Tryz.ntmps17;go_wp2
  go_loopw [1,5] (fun t i wr=>∃ k:Nat,k<=ps.length∧i=.int .i64 k∧t=.int .i64 (L-ps.length-zsum (ps.take k))∧Hid ((ps.length:Int)+zsum (ps.take k)<=L)∧Below w.heap.size w wr) (fun _ i _=>ps.length-(intOf i).toNat)
  case atStart=>exact⟨0,Nat.zero_le _,rfl,by simp [zsum],by show _<=L;simp [zsum];omega,Below.refl _ _⟩
  case round=>
   obtain⟨k,hk,rfl,rfl,hle,hbel⟩:=hrel
   by_cases hlt:k<ps.length
   ·obtain⟨x,hxk⟩:∃ x,ps[k]? =some x:=⟨_,List.getElem?_eq_getElem hlt⟩;obtain⟨b,off,rfl,hcell⟩:=hc (by omega);obtain⟨c0,c1,c2,c3⟩:=zp_cells hcell hxk;have put:∀ {O:Nat} {z:Value},w.cell? ⟨b,O,none⟩=some z->wr.cell? ⟨b,O,none⟩=some z:=fun h=>(hbel.cell (World.block_lt_of_cell? w _ h)).trans h
    replace c0:=put c0
    replace c1:=put c1
    replace c2:=put c2
    replace c3:=put c3
    have HS:Hid (zsum (ps.take (k+1))=zsum (ps.take k)+zs1 x.1):=zsum_step ps k x hxk;have hs1:Hid (zsum (ps.take (k+1))<=zsum ps):=zsum_take_le ps (k+1);have hone:=hsz x (List.mem_of_getElem? hxk) (L-ps.length-zsum (ps.take k)) wr hbel (by have:=hle.out;omega) (by omega);have i1:(0:Int)<=(k:Int):=by omega
    have i2:(k:Int)<(ps.length:Int):=by omega
    by_cases hb:(zs1 x.1:Int)<=L-ps.length-zsum (ps.take k)
    ·have e1:szZ1 x.1 (L-ps.length-zsum (ps.take k))=L-ps.length-zsum (ps.take (k+1)):=by
      have:=HS.out;rw [szZ1,if_pos hb];omega
     have hnn:0<=L-(ps.length:Int)-zsum (ps.take (k+1)):=by have:=HS.out;omega
     have hle2:Hid ((ps.length:Int)+zsum (ps.take (k+1))<=L):=by show _<=L;omega
     rw [e1] at hone;clear hxk hcell hc hx hsz HS hb e1 hs1;generalize hL2:(L-(ps.length:Int)-(zsum (ps.take (k+1)):Int))=L2 at*;generalize (L-(ps.length:Int)-(zsum (ps.take k):Int))=L1 at*;go_wp2_with (go_at_call 42;refine hone.mono ?_;rintro e w1 ⟨rfl,hb1⟩)
     go_roundw
     case rel=>exact⟨k+1,by omega,by go_num,by rw [hL2],hle2,Nm.below_two hbel hb1⟩
     case measure=>simp [intOf];omega
    ·have HZ:Hid (szZS ps L= -1):=if_neg (by have:=HS.out;have:=hs1.out;omega);have e1:szZ1 x.1 (L-ps.length-zsum (ps.take k))= -1:=if_neg hb;rw [e1] at hone;clear hxk hcell hc hx hsz HS hb e1 hs1;generalize (L-(ps.length:Int)-(zsum (ps.take k):Int))=L1 at*;go_wp2_with (go_at_call 42;refine hone.mono ?_;rintro e w1 ⟨rfl,hb1⟩)
     go_ret;rw [HZ.out];exact⟨rfl,Nm.below_two hbel hb1⟩
   ·have hkl:k=ps.length:=by omega
    have HZ:Hid (szZS ps L=L-ps.length-zsum (ps.take k)):=by
     have:=hle.out;rw [hkl,List.take_length] at this ⊢;exact if_pos this
    have i2:(ps.length:Int)<=(k:Int):=by omega
    clear hc hx hsz;generalize (L-(ps.length:Int)-(zsum (ps.take k):Int))=L1 at*;go_wp2;go_ret;rw [HZ.out];exact⟨rfl,hbel⟩
set_option maxRecDepth 100000 in
set_option maxHeartbeats 1600000 in
theorem szZone_any(o:ByteArray)(v:Value)(ps:List Zp)(L:Int)(w:World)(h:ZRow w v ps)(hx:ZFit ps)(ho:o.size<=maxLen)(h0:0<=L)(h1:L<=1048576):
 Calls Tryz.prog 4 #[.agg #[.string o,v],.int .i64 L] w fun e w'=>e=.returned (.int .i64 (szZ o ps L))∧Below w.heap.size w w':=by
 unfold maxLen at ho;have hB:=(Below.refl w.heap.size w).alloc (Nat.le_refl _) (.cells #[.string o,v] 24);have hcall:=fun K h0 h1=>szSetS_any v ps K _ (h.below hB) hx h0 h1
 obtain⟨⟨_,a,cap,rfl,_⟩,_⟩:=h;clear hx
 by_cases hm:L-o.size<0
 ·have HS:Hid (szZ o ps L= -1):=if_neg (by omega);clear hcall;go_enter Tryz.func4,Tryz.ntmps4;go_wp2;go_ret;rw [HS.out];exact⟨rfl,hB⟩
 ·have hm':0<=L-o.size:=by omega
  have hone:=hcall (L-o.size) hm' (by omega);clear hcall
  by_cases hn:(ps.length:Int)+(zsum ps:Int)<=L-o.size
  ·have HS:Hid (szZ o ps L=L-o.size-ps.length-zsum ps):=if_pos (by omega);have e1:szZS ps (L-o.size)=L-o.size-ps.length-zsum ps:=if_pos hn;have hnn:0<=L-o.size-ps.length-zsum ps:=by omega
   rw [e1] at hone;clear e1 hn;generalize (L-(o.size:Int)-(ps.length:Int)-(zsum ps:Int))=L2 at*;go_enter Tryz.func4,Tryz.ntmps4;go_wp2_with (go_at_call 17;refine hone.mono ?_;rintro e w1 ⟨rfl,hb1⟩)
   go_ret;rw [HS.out];exact⟨rfl,Nm.below_two hB hb1⟩
  ·have HS:Hid (szZ o ps L= -1):=if_neg (by omega);have e1:szZS ps (L-o.size)= -1:=if_neg hn;rw [e1] at hone;clear e1 hn;go_enter Tryz.func4,Tryz.ntmps4;go_wp2_with (go_at_call 17;refine hone.mono ?_;rintro e w1 ⟨rfl,hb1⟩)
   go_ret;rw [HS.out];exact⟨rfl,Nm.below_two hB hb1⟩
end Go.Proofs.YtgilkakllagbnaaGreat
