import Derived.Test.YtcihkbojmbfmmaaGreatDoorJShK
import Derived.StillTailTactics
namespace Go.Proofs.YtcihkbojmbfmmaaGreatDoor
open Go.RowKit
set_option linter.unusedVariables false
theorem b_wide(x:Wd)(h:x.toNat<256):IntKind.u32.wrap (x.toNat:Int)=(x.toNat:Int):=u32_wrap _ (by omega)
set_option maxRecDepth 1000000 in
set_option maxHeartbeats 16000000 in
theorem sha_words(tb xc L A p8:Nat)(t:List UInt8)(hne:tb≠p8)(hn:A+64<=L)(hL:L<=4000000)(Q0:Exit->Act->World->Prop)(w:World)(hc:∀ j,j<L->w.cell? ⟨tb,j,none⟩=some (.int .u8 ((bW t j).toNat:Int)))(k8:Blk w p8 (wA (fun i=>wordAt t (A+4*i)) 0) 127)
 (s0 s1 s2 s4 s5 s6 s10 s11 s12 s13 s14 s15 s16 s17 s18 s19 s20 s21 s22 s23 s24 s25 s26 s27 s28 s29 s30 s31 s32 s33 s34 s35 s36 s37 s38 s39 s40 s41 s42 s43 s44 s45 s46 s47 s48 s49 s50 s51 s52 s53 s54 s55 s56 s57 s58 s59 s60 s61 s62 s63 s64 s65 s66 s67 s68 s69 s70 s71 s72 s73 s74 s75 s76 s77 s78 s79 s80 s81 s82 s83 s84 s85 s86 s87 s88 s89 s90 s91 s92 s93 s94 s95 s96 s97 s98 s99 s100 s101 s102 s103 s104 s105 s106 s107 s108 s109 s110 s111 s112 s113 s114 s115 s116 s117 s118 s119 s120 s121 s122 s123 s124 s125 s126 s127 s128 s129 s130 s131 s132 s133 s134 s135 s136 s137 s138 s139 s140 s141 s142 s143 s144 s145 s146 s147 s148 s149 s150 s151 s152 s153 s154 s155 s156 s157 s158 s159 s160 s161 s162 s163 s164 s165 s166 s167 s168 s169 s170 s171 s172 s173 s174 s175 s176 s177 s178 s179 s180 s181 s182 s183 s184 s185 s186 s187 s188 s189 s190 s191 s192 s193 s194 s195 s196 s197 s198 s199 s200 s201 s202 s203 s204 s205 s206 s207 s208 s209 s210 s211 s212 s213 s214 s215 s216 s217 s218 s219 s220 s221 s222 s223 s224 s225 s226 s227 s228 s229 s230 s231 s232 s233 s234 s235 s236 s237 s238 s239 s240 s241 s242 s243 s244 s245 s246 s247 s248 s249 s250 s251 s252 s253 s254 s255 s256 s257 s258 s259 s260 s261 s262 s263 s264 s265 s266:Value)
 (hexit:∀ (u9 u10 u11 u12 u13 u14 u72 u73 u74 u75 u76 u77 u78 u79 u80 u81 u82 u83 u84 u85 u86 u87 u88 u89 u90 u91 u92 u93 u94 u95 u96 u97 u98 u99 u100 u101 u102 u103 u104 u105 u106 u107 u108 u109 u110 u111 u112 u113 u114 u115 u116 u117 u118 u119 u120 u121 u122 u123 u124 u125 u126 u127 u128 u129 u130 u131 u132 u133 u134 u135 u136 u137 u138 u139 u140 u141 u142 u143 u144 u145 u146 u147 u148 u149 u150 u151:Value) (w':World),Blk w' p8 (wA (fun i=>wordAt t (A+4*i)) 64) 127∧Only p8 w w'->Q0 (.exit 8) ⟨(s0::s1::s2::.slice (some ⟨tb,0,none⟩) L xc::s4::s5::s6::.int .i64 (A:Int)::.pointer (some ⟨p8,0,none⟩)::u9::u10::u11::u12::u13::u14::s15::s16::s17::s18::s19::s20::s21::s22::s23::s24::s25::s26::s27::s28::s29::s30::s31::s32::s33::s34::s35::s36::s37::s38::s39::s40::s41::s42::s43::s44::s45::s46::s47::s48::s49::s50::s51::s52::s53::s54::s55::s56::s57::s58::s59::s60::s61::s62::s63::s64::s65::s66::s67::s68::s69::s70::s71::u72::u73::u74::u75::u76::u77::u78::u79::u80::u81::u82::u83::u84::u85::u86::u87::u88::u89::u90::u91::u92::u93::u94::u95::u96::u97::u98::u99::u100::u101::u102::u103::u104::u105::u106::u107::u108::u109::u110::u111::u112::u113::u114::u115::u116::u117::u118::u119::u120::u121::u122::u123::u124::u125::u126::u127::u128::u129::u130::u131::u132::u133::u134::u135::u136::u137::u138::u139::u140::u141::u142::u143::u144::u145::u146::u147::u148::u149::u150::u151::s152::s153::s154::s155::s156::s157::s158::s159::s160::s161::s162::s163::s164::s165::s166::s167::s168::s169::s170::s171::s172::s173::s174::s175::s176::s177::s178::s179::s180::s181::s182::s183::s184::s185::s186::s187::s188::s189::s190::s191::s192::s193::s194::s195::s196::s197::s198::s199::s200::s201::s202::s203::s204::s205::s206::s207::s208::s209::s210::s211::s212::s213::s214::s215::s216::s217::s218::s219::s220::s221::s222::s223::s224::s225::s226::s227::s228::s229::s230::s231::s232::s233::s234::s235::s236::s237::s238::s239::s240::s241::s242::s243::s244::s245::s246::s247::s248::s249::s250::s251::s252::s253::s254::s255::s256::s257::s258::s259::s260::s261::s262::s263::s264::s265::s266::[]).toArray,[]⟩ w'):
 Code.wp Tryz.prog (Code.loop shL5) Q0 ⟨(s0::s1::s2::.slice (some ⟨tb,0,none⟩) L xc::s4::s5::s6::.int .i64 (A:Int)::.pointer (some ⟨p8,0,none⟩)::.int .i64 0::s10::s11::s12::s13::s14::s15::s16::s17::s18::s19::s20::s21::s22::s23::s24::s25::s26::s27::s28::s29::s30::s31::s32::s33::s34::s35::s36::s37::s38::s39::s40::s41::s42::s43::s44::s45::s46::s47::s48::s49::s50::s51::s52::s53::s54::s55::s56::s57::s58::s59::s60::s61::s62::s63::s64::s65::s66::s67::s68::s69::s70::s71::s72::s73::s74::s75::s76::s77::s78::s79::s80::s81::s82::s83::s84::s85::s86::s87::s88::s89::s90::s91::s92::s93::s94::s95::s96::s97::s98::s99::s100::s101::s102::s103::s104::s105::s106::s107::s108::s109::s110::s111::s112::s113::s114::s115::s116::s117::s118::s119::s120::s121::s122::s123::s124::s125::s126::s127::s128::s129::s130::s131::s132::s133::s134::s135::s136::s137::s138::s139::s140::s141::s142::s143::s144::s145::s146::s147::s148::s149::s150::s151::s152::s153::s154::s155::s156::s157::s158::s159::s160::s161::s162::s163::s164::s165::s166::s167::s168::s169::s170::s171::s172::s173::s174::s175::s176::s177::s178::s179::s180::s181::s182::s183::s184::s185::s186::s187::s188::s189::s190::s191::s192::s193::s194::s195::s196::s197::s198::s199::s200::s201::s202::s203::s204::s205::s206::s207::s208::s209::s210::s211::s212::s213::s214::s215::s216::s217::s218::s219::s220::s221::s222::s223::s224::s225::s226::s227::s228::s229::s230::s231::s232::s233::s234::s235::s236::s237::s238::s239::s240::s241::s242::s243::s244::s245::s246::s247::s248::s249::s250::s251::s252::s253::s254::s255::s256::s257::s258::s259::s260::s261::s262::s263::s264::s265::s266::[]).toArray,[]⟩ w:=by
 conv=>arg 2;arg 1;whnf
 go_loopw [9] (fun i wr=>∃ k:Nat,k<=64∧i=.int .i64 k∧Blk wr p8 (wA (fun i=>wordAt t (A+4*i)) k) 127∧Only p8 w wr) (fun i _=>64-(intOf i).toNat)
 case atStart=>exact⟨0,by omega,rfl,k8,Only.refl _ _⟩
 case round=>
  obtain⟨k,hk,rfl,kk,hO⟩:=hrel;clear k8
  by_cases hlt:k<64
  ·clear hexit;obtain⟨m,hm⟩:∃ m:Nat->Wd,(fun i=>wordAt t (A+4*i))=m:=⟨_,rfl⟩;have i1:(0:Int)<=(k:Int):=by omega
   have i2:(k:Int)<64:=by omega
   have f8:=blk_frozen kk k;obtain⟨v8,hv8⟩:=wA_any (m:=m) (i:=k) hlt;rw [hm] at kk;have c8:=(blk_cell kk k).trans hv8
   have kS:=Nm.hide (show Blk (wr.setCell ⟨p8,k,none⟩ (.int .u32 ((wF m k).toNat:Int))) p8 (wA (fun i=>wordAt t (A+4*i)) (k+1)) 127 by
    have h:=blk_set kk k (.int .u32 ((wF m k).toNat:Int));rw [wA_set hlt] at h;rw [hm]
    exact h)
   have hOS:=Nm.hide (hO.set (i:=k) (v:=.int .u32 ((wF m k).toNat:Int)))
   by_cases h16:k<16
   ·have i16:(k:Int)<16:=by omega
    have d0:=hO.cell hne (hc (A+4*k) (by omega));have d1:=hO.cell hne (hc (A+4*k+1) (by omega));have d2:=hO.cell hne (hc (A+4*k+2) (by omega));have d3:=hO.cell hne (hc (A+4*k+3) (by omega))
    have hw:=Nm.hide (show wF m k=(bW t (A+4*k)<<<24)|||(bW t (A+4*k+1)<<<16)|||(bW t (A+4*k+2)<<<8)|||bW t (A+4*k+3) by
     rw [wF_low h16,<- hm]
     rfl)
    have b0:(bW t (A+4*k)).toNat<256:=by rw [bW_nat];exact UInt8.toNat_lt _
    have b1:(bW t (A+4*k+1)).toNat<256:=by rw [bW_nat];exact UInt8.toNat_lt _
    have b2:(bW t (A+4*k+2)).toNat<256:=by rw [bW_nat];exact UInt8.toNat_lt _
    have b3:(bW t (A+4*k+3)).toNat<256:=by rw [bW_nat];exact UInt8.toNat_lt _
    have hkn:A+4*k+3<L:=by omega
    generalize bW t (A+4*k)=x0 at*;generalize bW t (A+4*k+1)=x1 at*;generalize bW t (A+4*k+2)=x2 at*;generalize bW t (A+4*k+3)=x3 at*;clear hc hm hn;go_wp2;rw [show(A:Int)+4*(k:Int)=((A+4*k:Nat):Int) by omega];generalize A+4*k=K at*;have j0:(0:Int)<=(K:Int):=by omega
    have jj:(K:Int)<(L:Int):=by omega
    obtain⟨K1,hK1⟩:∃ K1,K+1=K1:=⟨_,rfl⟩;obtain⟨K2,hK2⟩:∃ K2,K+2=K2:=⟨_,rfl⟩;obtain⟨K3,hK3⟩:∃ K3,K+3=K3:=⟨_,rfl⟩;rw [hK1] at d1;rw [hK2] at d2;rw [hK3] at d3;have q1:IntKind.i64.wrap ((K:Int)+1)=(K1:Int):=by rw [Go.wrap_small _ (by omega) (by omega)];omega
    have q2:IntKind.i64.wrap ((K:Int)+2)=(K2:Int):=by rw [Go.wrap_small _ (by omega) (by omega)];omega
    have q3:IntKind.i64.wrap ((K:Int)+3)=(K3:Int):=by rw [Go.wrap_small _ (by omega) (by omega)];omega
    have j1:(K1:Int)<(L:Int):=by omega
    have j2:(K2:Int)<(L:Int):=by omega
    have j3:(K3:Int)<(L:Int):=by omega
    have z1:(0:Int)<=(K1:Int):=by omega
    have z2:(0:Int)<=(K2:Int):=by omega
    have z3:(0:Int)<=(K3:Int):=by omega
    have r0:=b_wide x0 b0;have r1:=b_wide x1 b1;have r2:=b_wide x2 b2;have r3:=b_wide x3 b3;clear hK1 hK2 hK3 hkn b0 b1 b2 b3
    go_still_tail 30,(by kernel_rfl)
    go_wp2;rw [w_shl24,w_shl16,w_shl8,w_or,w_or,w_or,<- hw.out];go_roundw
    case rel=>exact⟨k+1,by omega,by go_num,blk_drew kS.out,hOS.out.drew⟩
    case measure=>simp [intOf];omega
   ·have i16:¬(k:Int)<16:=by omega
    have i17:(16:Int)<=(k:Int):=by omega
    have e15:=(blk_cell kk (k-15)).trans (wA_at (show k-15<k by omega) (by omega));have e2:=(blk_cell kk (k-2)).trans (wA_at (show k-2<k by omega) (by omega));have e16:=(blk_cell kk (k-16)).trans (wA_at (show k-16<k by omega) (by omega));have e7:=(blk_cell kk (k-7)).trans (wA_at (show k-7<k by omega) (by omega));have hw:=Nm.hide (wF_high (m:=m) h16);generalize wF m (k-15)=x15 at*;generalize wF m (k-2)=x2 at*;generalize wF m (k-16)=x16 at*;generalize wF m (k-7)=x7 at*;clear hc hm hn;go_wp2_with (first|(go_at_call 82;refine(l09Turn_any _ _ (by decide) (by decide) _).mono ?_;rintro e wv ⟨rfl,rfl⟩))
    obtain⟨k16,hk16⟩:∃ j,k-16=j:=⟨_,rfl⟩;obtain⟨k7,hk7⟩:∃ j,k-7=j:=⟨_,rfl⟩;rw [hk16] at e16;rw [hk7] at e7;have q16:IntKind.i64.wrap ((k:Int)-16)=(k16:Int):=by rw [Go.wrap_small _ (by omega) (by omega)];omega
    have q7:IntKind.i64.wrap ((k:Int)-7)=(k7:Int):=by rw [Go.wrap_small _ (by omega) (by omega)];omega
    have y16:(k16:Int)<64:=by omega
    have y7:(k7:Int)<64:=by omega
    have z16:(0:Int)<=(k16:Int):=by omega
    have z7:(0:Int)<=(k7:Int):=by omega
    clear hk16 hk7
    go_still_tail 14,(by kernel_rfl)
    go_wp2;rw [w_shr3,w_shr10,w_xor,w_xor,w_xor,w_xor,w_add4,show turnW x15 7 ^^^ turnW x15 18 ^^^ (x15>>>3)=s0W x15 from rfl,show turnW x2 17 ^^^ turnW x2 19 ^^^ (x2>>>10)=s1W x2 from rfl,<- hw.out];go_roundw
    case rel=>exact⟨k+1,by omega,by go_num,blk_drew kS.out,hOS.out.drew⟩
    case measure=>simp [intOf];omega
  ·obtain rfl:k=64:=by omega
   go_wp2;exact⟨kk,hO⟩
end Go.Proofs.YtcihkbojmbfmmaaGreatDoor
