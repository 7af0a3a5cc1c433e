import Derived.Test.YtmdinnjimioffaaGreatJBzS
import Derived.Test.YtmdinnjimioffaaGreatDwC
import Derived.Test.YtmdinnjimioffaaGreatJZbG
namespace Go.Proofs.YtmdinnjimioffaaGreat
open Go.RowKit
set_option linter.unusedVariables false
set_option maxRecDepth 1000000 in
set_option maxHeartbeats 16000000 in
theorem zone_new(its:List It)(apex fo:ByteArray)(ty tt:Int)(zb rb b off k m n lc uc:Nat)(la va:Option Addr)(vc:Nat)(ps:List Zp)(r0 r2 r4:Value)(hpl:ps.length<=500)(hn:n<=500)(HITL:Hid (its.length=n))(hkm:k<m)(hm:m<=500)(hbz:b<zb)(Q0:Exit->Act->World->Prop)(wz:World)
 (kz2:Blk wz zb #[.string apex,.slice va ps.length vc] 28) (kr2:Blk wz rb #[r0,.int .i64 ty,r2,.int .i64 tt,r4] 33) (hrz:rb≠zb) (hZ2:ZOwn wz (zb+1) (.slice va ps.length vc) ps)
 (hits:CRow wz (.slice la n lc) n 8 (itCs its)) (hfo:wz.cell? ⟨b,off+k*8+5,none⟩=some (.string fo))
 (s0 s1 s2 s3 s4 s5 s6 s8 s9 s10 s11 s12 s14 s18 s19 s20 s21 s22 s23 s24 s25 s26 s27 s28 s29 s30 s31 s32 s33 s34 s35 s36 s37 s38 s39 s40 s41 s42 s43 s44 s45 s46 s47 s48 s49 s50 s51 s52 s53 s54 s55 s56 s57 s58 s59 s60 s61 s62 s63 s64 s65 s66 s67 s68 s69 s70 s71 s72 s73 s74 s75 s76 s77 s78 s79 s80 s81 s82 s83 s84 s85 s86 s87 s88 s89 s90 s91 s92 s93 s94 s95 s96 s97 s98 s99 s100 s101 s102 s103 s104 s105 s106 s107 s108 s109 s110 s111 s112 s113 s114 s115 s116 s117 s118 s119 s120 s121 s122 s123 s124 s125 s126 s127 s128 s129 s130 s131 s132 s133 s134 s135 s136 s137 s138 s139 s140 s141 s142 s143 s144 s145 s146 s147 s148 s149 s150 s151 s152 s153 s154 s155 s156 s157 s158 s159 s160 s161 s162 s163 s164 s165 s166 s167 s168 s169 s170 s171 s172 s173 s174 s175 s176 s177 s178 s179 s180 s181 s182 s183 s184 s185 s186:Value)
 (hexit:∀ (u150 u151 u152 u153 u154 u155 u156 u157 u158 u159 u160 u161 u162 u163 u164 u165 u166:Value) (w':World),(∃ vs',Blk w' zb #[.string apex,vs'] 28∧Blk w' rb #[r0,.int .i64 ty,r2,.int .i64 tt,r4] 33∧ZOwn w' (zb+1) vs' (ps++[((⟨ownI its fo,ty,tt,[]⟩:Sz),.slice none 0 0)])∧Below zb wz w')->Q0 .normal ⟨(s0::s1::s2::s3::s4::s5::s6::.slice la n lc::s8::s9::s10::s11::s12::.slice (some ⟨b,off,none⟩) m uc::s14::.pointer (some ⟨zb,0,none⟩)::.int .i64 (k:Int)::.pointer (some ⟨rb,0,none⟩)::s18::s19::s20::s21::s22::s23::s24::s25::s26::s27::s28::s29::s30::s31::s32::s33::s34::s35::s36::s37::s38::s39::s40::s41::s42::s43::s44::s45::s46::s47::s48::s49::s50::s51::s52::s53::s54::s55::s56::s57::s58::s59::s60::s61::s62::s63::s64::s65::s66::s67::s68::s69::s70::s71::s72::s73::s74::s75::s76::s77::s78::s79::s80::s81::s82::s83::s84::s85::s86::s87::s88::s89::s90::s91::s92::s93::s94::s95::s96::s97::s98::s99::s100::s101::s102::s103::s104::s105::s106::s107::s108::s109::s110::s111::s112::s113::s114::s115::s116::s117::s118::s119::s120::s121::s122::s123::s124::s125::s126::s127::s128::s129::s130::s131::s132::s133::s134::s135::s136::s137::s138::s139::s140::s141::s142::s143::s144::s145::s146::s147::s148::s149::u150::u151::u152::u153::u154::u155::u156::u157::u158::u159::u160::u161::u162::u163::u164::u165::u166::s167::s168::s169::s170::s171::s172::s173::s174::s175::s176::s177::s178::s179::s180::s181::s182::s183::s184::s185::s186::[]).toArray,[]⟩ w'):
 Code.wp Tryz.prog bzN Q0 ⟨(s0::s1::s2::s3::s4::s5::s6::.slice la n lc::s8::s9::s10::s11::s12::.slice (some ⟨b,off,none⟩) m uc::s14::.pointer (some ⟨zb,0,none⟩)::.int .i64 (k:Int)::.pointer (some ⟨rb,0,none⟩)::s18::s19::s20::s21::s22::s23::s24::s25::s26::s27::s28::s29::s30::s31::s32::s33::s34::s35::s36::s37::s38::s39::s40::s41::s42::s43::s44::s45::s46::s47::s48::s49::s50::s51::s52::s53::s54::s55::s56::s57::s58::s59::s60::s61::s62::s63::s64::s65::s66::s67::s68::s69::s70::s71::s72::s73::s74::s75::s76::s77::s78::s79::s80::s81::s82::s83::s84::s85::s86::s87::s88::s89::s90::s91::s92::s93::s94::s95::s96::s97::s98::s99::s100::s101::s102::s103::s104::s105::s106::s107::s108::s109::s110::s111::s112::s113::s114::s115::s116::s117::s118::s119::s120::s121::s122::s123::s124::s125::s126::s127::s128::s129::s130::s131::s132::s133::s134::s135::s136::s137::s138::s139::s140::s141::s142::s143::s144::s145::s146::s147::s148::s149::s150::s151::s152::s153::s154::s155::s156::s157::s158::s159::s160::s161::s162::s163::s164::s165::s166::s167::s168::s169::s170::s171::s172::s173::s174::s175::s176::s177::s178::s179::s180::s181::s182::s183::s184::s185::s186::[]).toArray,[]⟩ wz:=by
 obtain⟨j0,hj,hy0,hy1,hy2⟩:=info_parts Tryz.infoSetZ;have hown:=fun W (hW:Below wz.heap.size wz W)=>l06Owner_any (.slice la n lc) its fo W (by rw [HITL.out];exact hits.below hW) (by rw [HITL.out];omega)
 have n1:(0:Int)<=(k:Int):=by omega
 have n2:(k:Int)<(m:Int):=by omega
 have hlz:=blk_lt kz2;have rz2:=fun i=>blk_cell kz2 i
 have rr2:=fun i=>blk_cell kr2 i
 have hwk:IntKind.i64.wrap (k:Int)=(k:Int):=Go.wrap_small _ (by omega) (by omega)
 conv=>arg 2;whnf
 refine wp_region_noPanic ?_;refine wp_region_last (fun W=>W.cell? ⟨zb,1,none⟩=some (.slice va ps.length vc)∧W.cell? ⟨b,off+k*8+5,none⟩=some (.string fo)∧W.cell? ⟨rb,1,none⟩=some (.int .i64 ty)∧W.cell? ⟨rb,3,none⟩=some (.int .i64 tt)) 17 (by kernel_rfl) ⟨rz2 1,hfo,rr2 1,rr2 3⟩ (fun hHeld=>?_);refine tkL (i:=0) (v:=?_) rfl ?_ ?_;rotate_left 1
 ·(intro W hSW;obtain⟨z0,z1,z2,z3⟩:=hSW;go_simp;try (with_reducible rfl))
 refine tkL (i:=1) (v:=?_) rfl ?_ ?_;rotate_left 1
 ·(intro W hSW;obtain⟨z0,z1,z2,z3⟩:=hSW;go_simp;try (with_reducible rfl))
 refine tkL (i:=2) (v:=?_) rfl ?_ ?_;rotate_left 1
 ·(intro W hSW;obtain⟨z0,z1,z2,z3⟩:=hSW;go_simp;try (with_reducible rfl))
 refine tkL (i:=3) (v:=?_) rfl ?_ ?_;rotate_left 1
 ·(intro W hSW;obtain⟨z0,z1,z2,z3⟩:=hSW;go_simp;try (with_reducible rfl))
 refine tkL (i:=4) (v:=?_) rfl ?_ ?_;rotate_left 1
 ·(intro W hSW;obtain⟨z0,z1,z2,z3⟩:=hSW;go_simp;try (with_reducible rfl))
 refine tkL (i:=5) (v:=?_) rfl ?_ ?_;rotate_left 1
 ·(intro W hSW;obtain⟨z0,z1,z2,z3⟩:=hSW;go_simp;try (with_reducible rfl))
 refine tkL (i:=6) (v:=?_) rfl ?_ ?_;rotate_left 1
 ·(intro W hSW;obtain⟨z0,z1,z2,z3⟩:=hSW;go_simp;try (with_reducible rfl))
 refine tkL (i:=7) (v:=?_) rfl ?_ ?_;rotate_left 1
 ·(intro W hSW;obtain⟨z0,z1,z2,z3⟩:=hSW;go_simp;try (with_reducible rfl))
 refine tkL (i:=9) (v:=?_) rfl ?_ ?_;rotate_left 1
 ·(intro W hSW;obtain⟨z0,z1,z2,z3⟩:=hSW;go_simp;try (with_reducible rfl))
 refine tkL (i:=10) (v:=?_) rfl ?_ ?_;rotate_left 1
 ·(intro W hSW;obtain⟨z0,z1,z2,z3⟩:=hSW;go_simp;try (with_reducible rfl))
 refine tkL (i:=11) (v:=?_) rfl ?_ ?_;rotate_left 1
 ·(intro W hSW;obtain⟨z0,z1,z2,z3⟩:=hSW;go_simp;try (with_reducible rfl))
 refine tkL (i:=12) (v:=?_) rfl ?_ ?_;rotate_left 1
 ·(intro W hSW;obtain⟨z0,z1,z2,z3⟩:=hSW;go_simp;try (with_reducible rfl))
 refine wpAnyL_one (i:=8) (by kernel_rfl) rfl (fun K hK=>?_);go_simp;refine(hown _ (Below.refl _ _).drew).mono ?_;rintro e wv ⟨rfl,hwv⟩;obtain rfl:=hwv;go_wp2_with fail
 refine hK.out _ _ (by assumption) (fun _=>?_);clear hK K hown;generalize ownI its fo=OW at*;refine tkL (i:=13) (v:=?_) rfl ?_ ?_;rotate_left 1
 ·(intro W hSW;obtain⟨z0,z1,z2,z3⟩:=hSW;go_simp;try (with_reducible rfl))
 have hbz1:∀ o:Obj,Below wz.heap.size wz (wz.drew.alloc o):=fun o=>(Below.refl _ _).drew.alloc (Nat.le_refl _) _
 refine wpAnyL_one (i:=14) (by kernel_rfl) rfl (fun K hK=>?_);go_simp;refine hK.out _ _ ⟨(blk_cell (blk_below kz2 (hbz1 _)) 1),((hbz1 _).cell (World.block_lt_of_cell? wz _ hfo)).trans hfo,(blk_cell (blk_below kr2 (hbz1 _)) 1),(blk_cell (blk_below kr2 (hbz1 _)) 3)⟩ (fun _=>?_);clear hK K;refine wpAnyL_one (i:=15) (by kernel_rfl) rfl (fun K hK=>?_);refine step_append_own_at rfl (.tmp 151) (.tmp 164) 26 rfl (zb+1) 65 j0 _ 4 56 Tryz.underlying26 hj hy0 hy1 hy2 rfl (by decide) _ _ _ (by rfl) (own_below hZ2.outer (hbz1 _)) ⟨wz.heap.size,0,none⟩ 1 1 [.string OW,.int .i64 ty,.int .i64 tt,.slice none 0 0] (by rfl) rfl (cell_newV _ _ _) (by intro u hu;simp at hu;rcases hu with rfl|rfl|rfl|rfl<;>rfl) (by unfold maxLen;omega) (by omega) (by simp;omega) ?_;intro vv wa ho9 hg9 hnl9 hat9;have hZ3:=((hZ2.below (hbz1 _)).snoc (s:=⟨OW,ty,tt,[]⟩) (u:=.slice none 0 0) (World.ownsRow_nil _ _ _ _) (by intro p hp g hg;simp [Value.ownBlock]) ho9 hg9);have oo:=own_below hZ2.outer (hbz1 (.cells #[.string OW,.int .i64 ty,.int .i64 tt,.slice none 0 0] 65));have kz3:=blk_grown (blk_below kz2 (hbz1 _)) hg9 (own_nbZ oo (blk_below kz2 (hbz1 _)) (by decide));have kr3:=blk_grown (blk_below kr2 (hbz1 _)) hg9 (own_nbZ oo (blk_below kr2 (hbz1 _)) (by decide));have hb3:Below (zb+1) wz wa:=((hbz1 _).mono (by omega)).grown hg9 (by simp;omega) (fun g hg=>(hZ2.outer.lt g hg).1);have hfo3:=(hb3.cell (p:=⟨b,off+k*8+5,none⟩) (by show b<zb+1;omega)).trans hfo;obtain⟨xa,xc,rfl⟩:=own_sl ho9;have r3:=fun i=>blk_cell kz3 i
 have f3:=fun i=>blk_frozen kz3 i
 refine hK.out _ _ ⟨(blk_cell kz3 1),hfo3,(blk_cell kr3 1),(blk_cell kr3 3)⟩ (fun _=>?_);clear hK K;refine tkL (i:=16) (v:=?_) rfl ?_ ?_;rotate_left 1
 ·(intro W hSW;obtain⟨z0,z1,z2,z3⟩:=hSW;go_simp;try (with_reducible rfl))
 have kz4:=blk_set kz3 1 (.slice xa (ps.length+1) xc);have kr4:=blk_far (v:=.slice xa (ps.length+1) xc) (i:=1) kr3 hrz;have HF:=Nm.hide (And.intro kz4 (And.intro kr4 (And.intro (hZ3.far (g:=zb) (i:=1) (y:=.slice xa (ps.length+1) xc) (by omega)) ((hb3.mono (Nat.le_succ _)).setCell (p:=⟨zb,1,none⟩) (Nat.le_refl _) (.slice xa (ps.length+1) xc)))));refine wpAnyL_end (by kernel_rfl) rfl (by kernel_rfl) (fun K hK=>?_);go_simp;refine hK.out _ _ (NoPanic.normal ?_);clear hK K hat9 hnl9 hg9 ho9 kr3 kz3 kz4 kr4 hZ3 hb3;refine hexit _ _ _ _ _ _ _ _ _ _ _ _ _ _ _ _ _ _ ?_;exact⟨_,HF.out.1,HF.out.2.1,HF.out.2.2.1,HF.out.2.2.2⟩
set_option maxRecDepth 100000 in
set_option maxHeartbeats 6400000 in
theorem l05Records_any(g:Nat)(a:Option Addr)(n cap:Nat)(parts:Nat)(w:World)(h:Src w g a n cap)(hp:parts<=1000):
 Calls Tryz.prog 13 #[.pointer (some ⟨g,0,none⟩),.int .i64 (parts:Int)] w fun e w'=>∃ (ap b:ByteArray) (v:Value) (xs:List Rr),e=.returned (.tuple #[.string ap,v])∧ap∈apNs∧b.size=20∧frsR ap b<+:xs∧3<=xs.length∧xs.length<=3+3*parts∧Dl w g a n cap v xs w':=by
 obtain⟨i0,hi,hz0,hz1,hz2⟩:=info_parts Tryz.infoRRc;have hsw:=(Dr.start h).size;go_enter Tryz.func13,Tryz.ntmps13;go_wp2_with fail
 refine(l05Apex_any g a n cap _ h).mono ?_;rintro e w1 ⟨ap,rfl,hap,hs1,hg1⟩;obtain⟨ha1,ha2⟩:=ap_size hap;have HAP:=Nm.hide hap;have D1:=(Dr.start h).step hs1 hg1;clear hs1 hg1 h;go_wp2_with fail
 refine(l01Next_any g a n cap 5000 _ D1.s (by decide)).mono ?_;rintro e w2 ⟨lo,rfl,hlo0,hlo1,hs2,hg2⟩;have hlo2:=hlo1 (by decide);have D2:=D1.step hs2 hg2;clear hs2 hg2 D1 hlo1;go_wp2_with fail
 refine(l01Next_any g a n cap 2147483648 _ D2.s (by decide)).mono ?_;rintro e w3 ⟨sr,rfl,hsr0,hsr1,hs3,hg3⟩;have hsr2:=hsr1 (by decide);have D3:=D2.step hs3 hg3;obtain⟨lo,rfl⟩:=Int.eq_ofNat_of_zero_le hlo0;obtain⟨sr,rfl⟩:=Int.eq_ofNat_of_zero_le hsr0;clear hs3 hg3 D2 hsr1;go_wp2_with fail
 refine(l05Soa_any ap sr lo 3600 _ (by omega) (by omega) (by omega)).mono ?_;rintro e w4 ⟨b,rfl,hb,b4⟩
 have hd:(soaD ap b).size<=3200:=by
  rw [soaD,ByteArray.size_append,ByteArray.size_append,sub_len,sub_len,show Nm.wsum [(⟨#[110,115,49]⟩:ByteArray)]=4 from rfl,show Nm.wsum [(⟨#[97,100,109,105,110]⟩:ByteArray)]=6 from rfl];omega
 have HD0:∃ d,Hid (d=soaD ap b):=⟨_,rfl⟩;obtain⟨d,HD⟩:=HD0;rw [<- HD.out] at hd ⊢;have HB:=Nm.hide hb;clear hb;have D4:=D3.below b4;have hz4:=D4.size
 have L4:Dl w g a n cap (.slice (some ⟨w4.heap.size,0,none⟩) 1 1) [⟨ap,6,1,3600,d⟩] (w4.alloc (.cells #[.string ap,.int .i64 6,.int .i64 1,.int .i64 3600,.string d] 33)):=
  ⟨D4.alloc _,World.ownsRow_lit (base:=w.heap.size) (e:=33) (size:=5) w4 #[.string ap,.int .i64 6,.int .i64 1,.int .i64 3600,.string d] 1 hz4 (by decide) rfl,by intro r hr;simp at hr;subst hr;exact⟨by show ap.size<=1000;omega,by show d.size<=3200;omega⟩⟩
 clear D3 D4 b4;go_wp2_with fail
 refine(L4.subS1 ⟨#[110,115,49]⟩ ap (by decide) (by omega) (by simp)).mono ?_;rintro e w5 ⟨s5,rfl,hs5,z5,L5⟩
 replace z5:s5.size=4+ap.size:=z5
 have y5:s5.size<=100:=by omega
 have HS5:=Nm.hide hs5;clear z5 hs5;have hz5:=L5.d.size;clear L4;go_wp2_with (at_builtin;refine wpList_append_own _ rfl (.tmp 21) (.tmp 27) 23 rfl w.heap.size 33 i0 _ 5 56 Tryz.underlying23 hi hz0 hz1 hz2 rfl (by decide) _ _ _ rfl ((L5.r).alloc _) ⟨w5.heap.size,0,none⟩ 1 1 [.string ap,.int .i64 2,.int .i64 1,.int .i64 3600,.string s5] rfl rfl (cell_newV w5 #[.string ap,.int .i64 2,.int .i64 1,.int .i64 3600,.string s5] 33) (by intro u hu;simp at hu;rcases hu with rfl|rfl|rfl|rfl|rfl<;>rfl) (by unfold maxLen;simp) (by simp) (by simp;omega) ?_)
 intro v6 w6 hown6 hgrow6 _
 have L6:Dl w g a n cap v6 [⟨ap,6,1,3600,d⟩,⟨ap,2,1,3600,s5⟩] w6:=
  ⟨(L5.d.alloc (.cells #[.string ap,.int .i64 2,.int .i64 1,.int .i64 3600,.string s5] 33)).row hgrow6 (fun k hk=>(L5.r.lt k hk).1),hown6,by
    intro r hr;simp at hr
    rcases hr with rfl|rfl
    ·exact⟨by show ap.size<=1000;omega,by show d.size<=3200;omega⟩
    ·exact⟨by show ap.size<=1000;omega,by show s5.size<=3200;omega⟩⟩
 obtain⟨va6,vc6,rfl⟩:=own_sl L6.r;clear L5 hown6 hgrow6;go_wp2_with fail
 refine(L6.sub1 ⟨#[110,115,49]⟩ ap (by decide) (by omega) (by simp)).mono ?_;rintro e w7 ⟨s7,rfl,z7,L7⟩
 replace z7:s7.size=4+ap.size:=z7
 have y7:s7.size<=100:=by omega
 clear z7;clear L6;go_wp2_with fail
 refine L7.bytes4.mono ?_;rintro e w8 ⟨d8,rfl,z8,L8⟩;clear L7;go_wp2_with fail
 refine(L8.add s7 1 d8 (by simp) (by omega) (by omega)).mono ?_;rintro e w9 ⟨u9,ys9,rfl,len9,lb9,L9⟩;obtain⟨va9,vc9,rfl⟩:=own_sl L9.r;have HL9:Hid (ys9.length=3∧frsR ap b<+:ys9):=⟨len9.out.2,by rw [frsR,<- HD.out,<- HS5.out];exact len9.out.1⟩;clear L8 len9 lb9;go_wp2
 go_loopw [8,9,10] (fun v av iv wr=>∃ (k:Nat) (ab:ByteArray) (xs:List Rr),k<=parts∧iv=.int .i64 k∧av=.string ab∧1<=ab.size∧ab.size<=30∧Hid (frsR ap b<+:xs∧3<=xs.length)∧xs.length<=3+3*k∧Dl w g a n cap v xs wr) (fun _ _ i _=>parts-(intOf i).toNat)
 case atStart=>exact⟨0,ap,ys9,Nat.zero_le _,rfl,rfl,ha1,by omega,⟨HL9.out.2,by have:=HL9.out.1;omega⟩,by have:=HL9.out.1;omega,L9⟩
 case round=>
  clear L9 HL9;obtain⟨k,ab,xs,hk,rfl,rfl,hb1,hb2,hx1,hx2,L⟩:=hrel;obtain⟨va,vc,rfl⟩:=own_sl L.r
  by_cases hlt:k<parts
  ·have i2:(k:Int)<(parts:Int):=by omega
   go_wp2_with fail
   refine(l05Part_any _ xs ab _ L (by omega) hb1 (by omega)).mono ?_;rintro e wA ⟨u,ys,rfl,hy1,LA⟩;obtain⟨vaA,vcA,rfl⟩:=own_sl LA.r;have HY:Hid ((frsR ap b<+:ys∧3<=ys.length)∧ys.length<=3+3*(k+1)):=⟨⟨hx1.out.1.trans hy1.1,by have h1:=hy1.1.length_le;have h2:=hx1.out.2;omega⟩,by have:=hy1.2;omega⟩;clear L hy1;go_wp2_with fail
   refine(LA.next 5 (by decide) (by decide)).mono ?_;rintro e wB ⟨r,rfl,hr0,hr1,LB⟩;clear LA
   by_cases hr:r=0
   ·subst hr;go_wp2_with fail
    refine LB.label.mono ?_;rintro e wC ⟨lb,rfl,hl1,hl2,LC⟩;clear LB;go_wp2_with fail
    refine(LC.sub1 lb ap (by omega) (by omega) (by simp)).mono ?_;rintro e wD ⟨s,rfl,zs,LD⟩;have hs1:2<=s.size:=by omega
    have i3:(1:Int)<(s.size:Int):=by omega
    have hs2:s.size<=30:=by omega
    clear LC zs
    by_cases hc:((s[1].toNat:Int)==42)=true
    ·go_wp2;go_roundw
     case rel=>exact⟨k+1,ap,ys,hlt,by go_num,rfl,ha1,by omega,HY.out.1,HY.out.2,LD⟩
     case measure=>simp [intOf];omega
    ·have hc':((s[1].toNat:Int)==42)=false:=by simpa using hc
     clear hc;go_wp2;go_roundw
     case rel=>exact⟨k+1,s,ys,hlt,by go_num,rfl,by omega,hs2,HY.out.1,HY.out.2,LD⟩
     case measure=>simp [intOf];omega
   ·have n0:(r==0)=false:=by rw [beq_eq_false_iff_ne];exact hr
    go_wp2;go_roundw
    case rel=>exact⟨k+1,ab,ys,hlt,by go_num,rfl,hb1,hb2,HY.out.1,HY.out.2,LB⟩
    case measure=>simp [intOf];omega
  ·have hkl:k=parts:=by omega
   subst hkl;have i3:¬(k:Int)<(k:Int):=by omega
   go_wp2;go_ret2;exact⟨ap,b,_,rfl,HAP.out,HB.out,xs,hx1.out.1,hx1.out.2,hx2,L⟩
end Go.Proofs.YtmdinnjimioffaaGreat
