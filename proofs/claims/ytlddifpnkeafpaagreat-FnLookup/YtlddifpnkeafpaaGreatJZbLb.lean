import Derived.Test.YtlddifpnkeafpaaGreatJBzFSOA
import Derived.Test.YtlddifpnkeafpaaGreatZbR
import Derived.Test.YtlddifpnkeafpaaGreatJSRepl
set_option linter.unusedVariables false
set_option maxRecDepth 1000000
set_option maxHeartbeats 16000000
namespace Go.Proofs.YtlddifpnkeafpaaGreat
open Go.RowKit
theorem Cf(its:List It)(aL fo:ByteArray)(ty tt:Int)(zb rb b off k m n lc uc:Nat)(la va:Option Addr)(vc:Nat)(ps:List Zp)(r0 r2 r4:Value)(nZ:ps.length<=500)(hn:n<=500)(Fq:Hid (its.length=n))(hkm:k<m)(hm:m<=500)(yZ:b<zb)(Q0:Exit->Act->World->Prop)(wz:World)
 (uI:bW wz zb #[.string aL,.slice va ps.length vc] 25) (VA:bW wz rb #[r0,.int .i64 ty,r2,.int .i64 tt,r4] 133) (hrz:rb≠zb) (Dp:dF wz (zb+1) (.slice va ps.length vc) ps)
 (WK:dZ wz (.slice la n lc) n 8 (fK its)) (FL:wz.cell? ⟨b,off+k*8+5,none⟩=some (.string fo))
 (s0 s1 s2 s3 s4 s5 s6 s8 s9 s10 s11 s12 s14 s18 s19 s20 s21 s22 s23 s24 s25 s26 s27 s28 s29 s30 s31 s32 s33 s34 s35 s36 s37 s38 s39 s40 s41 s42 s43 s44 s45 s46 s47 s48 s49 s50 s51 s52 s53 s54 s55 s56 s57 s58 s59 s60 s61 s62 s63 s64 s65 s66 s67 s68 s69 s70 s71 s72 s73 s74 s75 s76 s77 s78 s79 s80 s81 s82 s83 s84 s85 s86 s87 s88 s89 s90 s91 s92 s93 s94 s95 s96 s97 s98 s99 Sb Sc Sd Sg Si Sj Sl Sm Sn Sq Sr Zn Zo Zq Zr Zt Zu Zv Zw Zy Zz a_ b_ d9 d_ f_ g_ h_ j3 j4 j5 j6 j_ l6 l7 l8 l_ m_ n_ o7 o8 o9 o_ p8 p9 p_ r_ t_ v_ w_ aBe aBf aBg aBh aBi aBj aBk aBl aBm aBn aBo aBp aBq aBr aBs aBt aBu x8 x9 x_ y9 aBv aBw aBx aBy aBz aB0 aB1 aB2 aB3 aB4 aB5 aB6 aB7 aB8 aB9 Su:Value)
 (Sw:∀ (C_ D_ E5 E8 E9 E_ F3 F4 F5 F6 F7 F8 F9 F_ G5 G6 G7:Value) (w':World),(∃ vs',bW w' zb #[.string aL,vs'] 25∧bW w' rb #[r0,.int .i64 ty,r2,.int .i64 tt,r4] 133∧dF w' (zb+1) vs' (ps++[((⟨vX its fo,ty,tt,[]⟩:Sz),.slice none 0 0)])∧Below zb wz w')->Q0 .normal ⟨(s0::s1::s2::s3::s4::s5::s6::.slice la n lc::s8::s9::s10::s11::s12::.slice (some ⟨b,off,none⟩) m uc::s14::.pointer (some ⟨zb,0,none⟩)::.int .i64 (k:Int)::.pointer (some ⟨rb,0,none⟩)::s18::s19::s20::s21::s22::s23::s24::s25::s26::s27::s28::s29::s30::s31::s32::s33::s34::s35::s36::s37::s38::s39::s40::s41::s42::s43::s44::s45::s46::s47::s48::s49::s50::s51::s52::s53::s54::s55::s56::s57::s58::s59::s60::s61::s62::s63::s64::s65::s66::s67::s68::s69::s70::s71::s72::s73::s74::s75::s76::s77::s78::s79::s80::s81::s82::s83::s84::s85::s86::s87::s88::s89::s90::s91::s92::s93::s94::s95::s96::s97::s98::s99::Sb::Sc::Sd::Sg::Si::Sj::Sl::Sm::Sn::Sq::Sr::Zn::Zo::Zq::Zr::Zt::Zu::Zv::Zw::Zy::Zz::a_::b_::d9::d_::f_::g_::h_::j3::j4::j5::j6::j_::l6::l7::l8::l_::m_::n_::o7::o8::o9::o_::p8::p9::p_::r_::t_::v_::w_::C_::D_::E5::E8::E9::E_::F3::F4::F5::F6::F7::F8::F9::F_::G5::G6::G7::x8::x9::x_::y9::aBv::aBw::aBx::aBy::aBz::aB0::aB1::aB2::aB3::aB4::aB5::aB6::aB7::aB8::aB9::Su::[]).toArray,[]⟩ w'):
 Code.wp Tryz.prog bzN Q0 ⟨(s0::s1::s2::s3::s4::s5::s6::.slice la n lc::s8::s9::s10::s11::s12::.slice (some ⟨b,off,none⟩) m uc::s14::.pointer (some ⟨zb,0,none⟩)::.int .i64 (k:Int)::.pointer (some ⟨rb,0,none⟩)::s18::s19::s20::s21::s22::s23::s24::s25::s26::s27::s28::s29::s30::s31::s32::s33::s34::s35::s36::s37::s38::s39::s40::s41::s42::s43::s44::s45::s46::s47::s48::s49::s50::s51::s52::s53::s54::s55::s56::s57::s58::s59::s60::s61::s62::s63::s64::s65::s66::s67::s68::s69::s70::s71::s72::s73::s74::s75::s76::s77::s78::s79::s80::s81::s82::s83::s84::s85::s86::s87::s88::s89::s90::s91::s92::s93::s94::s95::s96::s97::s98::s99::Sb::Sc::Sd::Sg::Si::Sj::Sl::Sm::Sn::Sq::Sr::Zn::Zo::Zq::Zr::Zt::Zu::Zv::Zw::Zy::Zz::a_::b_::d9::d_::f_::g_::h_::j3::j4::j5::j6::j_::l6::l7::l8::l_::m_::n_::o7::o8::o9::o_::p8::p9::p_::r_::t_::v_::w_::aBe::aBf::aBg::aBh::aBi::aBj::aBk::aBl::aBm::aBn::aBo::aBp::aBq::aBr::aBs::aBt::aBu::x8::x9::x_::y9::aBv::aBw::aBx::aBy::aBz::aB0::aB1::aB2::aB3::aB4::aB5::aB6::aB7::aB8::aB9::Su::[]).toArray,[]⟩ wz:=by
 obtain⟨j0,hj,hy0,Q6,hy2⟩:=info_parts Tryz.aFk;have aU:=fun W (hW:Below wz.heap.size wz W)=>Jq (.slice la n lc) its fo W (by rw [Fq.out];exact WK.below hW) (by rw [Fq.out];omega)
 have n1:=fE k
 have n2:(k:Int)<(m:Int):=by omega
 have hlz:=cO uI;have rz2:=aA uI
 have rr2:=aA VA
 have hwk:IntKind.i64.wrap (k:Int)=(k:Int):=Go.wrap_small _ (by omega) (by omega)
 conv=>arg 2;whnf
 refine wp_region_noPanic ?_;refine kR (fun W=>W.cell? ⟨zb,1,none⟩=some (.slice va ps.length vc)∧W.cell? ⟨b,off+k*8+5,none⟩=some (.string fo)∧W.cell? ⟨rb,1,none⟩=some (.int .i64 ty)∧W.cell? ⟨rb,3,none⟩=some (.int .i64 tt)) 17 ⟨rz2 1,FL,rr2 1,rr2 3⟩ fun aY=>?_;refine kB 0 rfl ?_;refine kB 1 rfl ?_;refine kB 2 rfl ?_;refine kB 3 rfl ?_;refine kB 4 rfl ?_;refine kB 5 rfl ?_;refine kB 6 rfl ?_;refine kB 7 rfl ?_;refine kB 9 rfl ?_;refine kB 10 rfl ?_;refine kB 11 rfl ?_;refine kB 12 rfl ?_;refine k1 8 rfl fun K hK=>?_
 go_simp;refine(aU _ (aJ _ _).drew).mono ?_;rintro e wv ⟨rfl,hwv⟩;obtain rfl:=hwv;go_wp2_with fail
 refine hK.out _ _ (by assumption) fun _=>?_;clear hK K aU;generalize vX its fo=OW at*;refine kB 13 rfl ?_;have WS:∀ o:Obj,Below wz.heap.size wz (wz.drew.alloc o):=fun o=>(aJ _ _).drew.alloc (aI _) _
 refine k1 14 rfl fun K hK=>?_
 go_simp;refine hK.out _ _ ⟨(aA (aB uI (WS _)) 1),((WS _).cell (fD wz _ FL)).trans FL,(aA (aB VA (WS _)) 1),(aA (aB VA (WS _)) 3)⟩ fun _=>?_;clear hK K;refine k1 15 rfl fun K hK=>?_
 refine yC rfl (.tmp 151) (.tmp 164) 23 rfl (zb+1) 42 j0 _ 4 56 Tryz.underlying23 hj hy0 Q6 hy2 rfl (by decide) _ _ _ (by rfl) (own_below Dp.outer (WS _)) ⟨wz.heap.size,0,none⟩ 1 1 [.string OW,.int .i64 ty,.int .i64 tt,.slice none 0 0] (by rfl) rfl (eZ _ _ _) (by intro u hu;simp at hu;rcases hu with rfl|rfl|rfl|rfl<;>rfl) (by unfold maxLen;omega) (by omega) (by simp;omega) ?_;intro vv wa yV nA BK DX;have hZ3:=((Dp.below (WS _)).snoc (s:=⟨OW,ty,tt,[]⟩) (u:=.slice none 0 0) (World.ownsRow_nil _ _ _ _) (by intro p hp g hg;simp [Value.ownBlock]) yV nA);have oo:=own_below Dp.outer (WS (.cells #[.string OW,.int .i64 ty,.int .i64 tt,.slice none 0 0] 42));have uD:=aO (aB uI (WS _)) nA (QI oo (aB uI (WS _)) (by decide));have kr3:=aO (aB VA (WS _)) nA (QI oo (aB VA (WS _)) (by decide));have SX:Below (zb+1) wz wa:=((WS _).mono (by omega)).grown nA (by simp;omega) (fun g hg=>(Dp.outer.lt g hg).1);have aRu:=(SX.cell (p:=⟨b,off+k*8+5,none⟩) (by show b<zb+1;omega)).trans FL;obtain⟨xa,xc,rfl⟩:=aT yV;have r3:=aA uD
 have f3:=aF uD
 refine hK.out _ _ ⟨(aA uD 1),aRu,(aA kr3 1),(aA kr3 3)⟩ fun _=>?_;clear hK K;refine kB 16 rfl ?_;have NQ:=aM uD 1 (.slice xa (ps.length+1) xc);have kr4:=eU (v:=.slice xa (ps.length+1) xc) (i:=1) kr3 hrz;have HF:=Nm.aD (aV NQ (aV kr4 (aV (hZ3.far (g:=zb) (i:=1) (y:=.slice xa (ps.length+1) xc) (by omega)) ((SX.mono (Nat.le_succ _)).setCell (p:=⟨zb,1,none⟩) (aI _) (.slice xa (ps.length+1) xc)))));refine iB (by kernel_rfl) rfl (by kernel_rfl) fun K hK=>?_;go_simp;refine hK.out _ _ (NoPanic.normal ?_);clear hK K DX BK nA yV kr3 uD NQ kr4 hZ3 SX;refine Sw _ _ _ _ _ _ _ _ _ _ _ _ _ _ _ _ _ _ ?_;exact⟨_,HF.out.1,HF.out.2.1,HF.out.2.2.1,HF.out.2.2.2⟩
theorem aCh(its S:List It)(aL:ByteArray)(la ua:Option Addr)(n m lc uc:Nat)(Q0:Exit->Act->World->Prop)(w5 w6:World)(Q_:m<=500)(aF0:n<=500)(HSL:Hid (S.length=m))(Fq:Hid (its.length=n))
 (HC5:Hid (dZ w5 (.slice la n lc) n 8 (fK its)∧dZ w5 (.slice ua m uc) m 8 (fK S))) (kz6:bW w6 w5.heap.size #[.string aL,.slice none 0 0] 25) (b6:Below w5.heap.size w5 w6)
 (s0 s1 s2 s3 s4 s5 s6 s8 s9 s10 s11 s12 s14 s17 s18 s19 s20 s21 s22 s23 s24 s25 s26 s27 s28 s29 s30 s31 s32 s33 s34 s35 s36 s37 s38 s39 s40 s41 s42 s43 s44 s45 s46 s47 s48 s49 s50 s51 s52 s53 s54 s55 s56 s57 s58 s59 s60 s61 s62 s63 s64 s65 s66 s67 s68 s69 s70 s71 s72 s73 s74 s75 s76 s77 s78 s79 s80 s81 s82 s83 s84 s85 s86 s87 s88 s89 s90 s91 s92 s93 s94 s95 s96 s97 s98 s99 Sb Sc Sd Sg Si Sj Sl Sm Sn Sq Sr Zn Zo Zq Zr Zt Zu Zv Zw Zy Zz a_ b_ d9 d_ f_ g_ h_ j3 j4 j5 j6 j_ l6 l7 l8 l_ m_ n_ o7 o8 o9 o_ p8 p9 p_ r_ t_ v_ w_ aBe aBf aBg aBh aBi aBj aBk aBl aBm aBn aBo aBp aBq aBr aBs aBt aBu x8 x9 x_ y9 aBv aBw aBx aBy aBz aB0 aB1 aB2 aB3 aB4 aB5 aB6 aB7 aB8 aB9 Su:Value)
 (Sw:∀ (u16 u17 u18 aOe aOf aOg aOh aOi aOj aOk aOl aOm aOn aOo aOp aOq aOr aOs aOt aOu aOv aOw aOx aOy aOz aO0 aO1 aO2 aO3 aO4 aO5 aO6 aO7 aO8 aO9 aPa aPb aPc aPd aPe aPf aPg C_ D_ E5 E8 E9 E_ F3 F4 F5 F6 F7 F8 F9 F_ G5 G6 G7 aPh aPi aPj aPk Sy Ta Tc Td Te Tf Tg Ti Tj Tk Tm Tn Tp Tq Tt:Value) (w':World),(∃ (vs:Value) (ps:List Zp),bW w' w5.heap.size #[.string aL,vs] 25∧dF w' (w5.heap.size+1) vs ps∧ps.map (·.1)=nS its S S.length∧Below w5.heap.size w5 w')->Q0 (.exit 4) ⟨(s0::s1::s2::s3::s4::s5::s6::.slice la n lc::s8::s9::s10::s11::s12::.slice ua m uc::s14::.pointer (some ⟨w5.heap.size,0,none⟩)::u16::u17::u18::s19::s20::s21::s22::s23::s24::s25::s26::s27::s28::s29::s30::s31::s32::s33::s34::s35::s36::s37::s38::s39::s40::s41::s42::s43::s44::s45::s46::s47::s48::s49::s50::s51::s52::s53::s54::s55::s56::s57::s58::s59::s60::s61::s62::s63::s64::s65::s66::s67::s68::s69::s70::s71::s72::s73::s74::s75::s76::s77::s78::s79::s80::s81::s82::s83::s84::s85::s86::s87::s88::s89::s90::s91::s92::s93::s94::s95::s96::s97::s98::s99::Sb::Sc::Sd::Sg::Si::Sj::Sl::Sm::Sn::Sq::Sr::aOe::aOf::aOg::aOh::aOi::aOj::aOk::aOl::aOm::aOn::aOo::aOp::aOq::aOr::aOs::aOt::aOu::aOv::aOw::aOx::aOy::aOz::aO0::aO1::aO2::aO3::aO4::aO5::aO6::aO7::aO8::aO9::aPa::aPb::aPc::aPd::aPe::aPf::aPg::C_::D_::E5::E8::E9::E_::F3::F4::F5::F6::F7::F8::F9::F_::G5::G6::G7::aPh::aPi::aPj::aPk::Sy::Ta::Tc::Td::Te::Tf::Tg::Ti::Tj::Tk::Tm::Tn::Tp::Tq::Tt::Su::[]).toArray,[]⟩ w'):
 Code.wp Tryz.prog (Code.loop aNz) Q0 ⟨(s0::s1::s2::s3::s4::s5::s6::.slice la n lc::s8::s9::s10::s11::s12::.slice ua m uc::s14::.pointer (some ⟨w5.heap.size,0,none⟩)::.int .i64 0::s17::s18::s19::s20::s21::s22::s23::s24::s25::s26::s27::s28::s29::s30::s31::s32::s33::s34::s35::s36::s37::s38::s39::s40::s41::s42::s43::s44::s45::s46::s47::s48::s49::s50::s51::s52::s53::s54::s55::s56::s57::s58::s59::s60::s61::s62::s63::s64::s65::s66::s67::s68::s69::s70::s71::s72::s73::s74::s75::s76::s77::s78::s79::s80::s81::s82::s83::s84::s85::s86::s87::s88::s89::s90::s91::s92::s93::s94::s95::s96::s97::s98::s99::Sb::Sc::Sd::Sg::Si::Sj::Sl::Sm::Sn::Sq::Sr::Zn::Zo::Zq::Zr::Zt::Zu::Zv::Zw::Zy::Zz::a_::b_::d9::d_::f_::g_::h_::j3::j4::j5::j6::j_::l6::l7::l8::l_::m_::n_::o7::o8::o9::o_::p8::p9::p_::r_::t_::v_::w_::aBe::aBf::aBg::aBh::aBi::aBj::aBk::aBl::aBm::aBn::aBo::aBp::aBq::aBr::aBs::aBt::aBu::x8::x9::x_::y9::aBv::aBw::aBx::aBy::aBz::aB0::aB1::aB2::aB3::aB4::aB5::aB6::aB7::aB8::aB9::Su::[]).toArray,[]⟩ w6:=by
 conv=>arg 2;arg 1;whnf
 go_loopw [16] (fun vi wr=>∃ (k:Nat) (vs:Value) (ps:List Zp),k<=m∧vi=.int .i64 k∧bW wr w5.heap.size #[.string aL,vs] 25∧dF wr (w5.heap.size+1) vs ps∧Hid (ps.map (·.1)=nS its S k)∧Below w5.heap.size w5 wr) (fun vi _=>m-(intOf vi).toNat)
 ·exact⟨0,_,[],dR _,rfl,kz6,dF.nil _ _,rfl,b6⟩
 clear kz6 b6;obtain⟨k,vs,ps,hk,rfl,kz,hZ,HG,aG⟩:=hrel;obtain⟨va,vc,hvs⟩:=aT hZ.outer;subst hvs
 by_cases bY:k<m
 ·clear Sw;obtain⟨x,hx⟩:∃ x,S[k]? =some x:=⟨_,gF (by have:=HSL.out;omega)⟩;have HM:=Nm.aD Q_
  have vS:∀ W,Below w5.heap.size w5 W->∃ b off,ua=some ⟨b,off,none⟩∧∀ (i:Nat) (y:Value),(fK S)[i]? =some y->W.cell? ⟨b,off+i,none⟩=some y:=by
   intro W hW;obtain⟨_,a',c',e',_,_,hc⟩:=HC5.out.2.below hW;simp only [gK] at e';obtain⟨rfl,_,rfl⟩:=e';exact hc (by omega)
  obtain⟨b,off,rfl,aH⟩:=vS wr aG;obtain⟨c0,c1,c2,c3,c4,c5,c6,c7⟩:=fQ aH hx;have n1:=fE k
  have n2:(k:Int)<(m:Int):=by omega
  have X:=Nm.aD (aV (aK wr #[.string x.r.own,.int .i64 x.r.ty,.int .i64 x.r.cl,.int .i64 x.r.tt,.string x.r.da] 133) ((aJ wr.heap.size wr).alloc (aI _) (.cells #[.string x.r.own,.int .i64 x.r.ty,.int .i64 x.r.cl,.int .i64 x.r.tt,.string x.r.da] 133)))
  have RG:ps.length<=k:=by
   have h1:=congrArg List.length HG.out;have h2:=(Aw (l:=its) (iT:=S) k (by have:=HSL.out;omega)).1;simp at h1;omega
  clear c6 c7;go_wp2;refine Bv (Pr:=fun W=>bW W wr.heap.size #[.string x.r.own,.int .i64 x.r.ty,.int .i64 x.r.cl,.int .i64 x.r.tt,.string x.r.da] 133∧Below wr.heap.size wr W) (G:=fun W=>Code.wp _ _ _ _ W) X.out ?_;rintro wq ⟨kr,bq⟩;have kz0:=kz;have FY:=aB kz bq;have hZ1:=hZ.below bq;have fJ:Below w5.heap.size w5 wq:=Nm.aC aG bq;clear X aH c0 c1 c2 c3 c4 c5 kz hZ aG bq;have hrz:wr.heap.size≠w5.heap.size:=by have:=cO kz0;omega
  clear kz0;generalize wr.heap.size=rb at*;obtain⟨b',off',e',aH⟩:=vS wq fJ;cases e'
  obtain⟨c0,c1,c2,c3,c4,c5,c6,c7⟩:=fQ aH hx;have rr:=aA kr
  clear c0 c2 c3 c4 c6 c7
  by_cases Ke:k=0
  ·have g0:((k:Int)==0)=true:=by simp [Ke]
   have HNW:Hid (jM S k x=true):=by show _=_;rw [Ke];rfl
   clear aH c1 c5 Ke;go_quiet (fail)
   generalize Fp:World.drewN wq _=wz;have OG:Below wq.heap.size wq wz:=by rw [<- Fp];exact Go.below_drewN (aJ _ _) _
   have uI:=aB FY OG;have Dp:=hZ1.below OG;have VA:=aB kr OG;have jW:=Nm.aC fJ OG
   have HG3:Hid (∀ u':Value,(ps++[(({(⟨vX its x.fo,x.r.ty,x.r.tt,[]⟩:Sz) with da:=[]++[x.r.da]}:Sz),u')]).map (·.1)=nS its S (k+1)):=by
    intro u';rw [tO hx HNW.out,<- HG.out];simp
   obtain⟨b',off',e',aH⟩:=vS wz jW;cases e'
   obtain⟨_,_,_,_,_,FL,_,_⟩:=fQ aH hx
   have yZ:b<w5.heap.size:=by
    obtain⟨b',off',e',aH⟩:=vS w5 (aJ _ _);cases e'
    obtain⟨_,_,_,_,_,FL,_,_⟩:=fQ aH hx;exact fD w5 _ FL
   have WK:=HC5.out.1.below jW;have nZ:ps.length<=500:=by have:=HM.out;omega
   clear Fp OG FY hZ1 kr fJ HNW vS hx aH HG;go_wp2;refine Cf its aL x.fo x.r.ty x.r.tt w5.heap.size rb b off k m n lc uc la va vc ps (.string x.r.own) (.int .i64 x.r.cl) (.string x.r.da) nZ aF0 Fq bY Q_ yZ _ wz uI VA hrz Dp WK FL _ _ _ _ _ _ _ _ _ _ _ _ _ _ _ _ _ _ _ _ _ _ _ _ _ _ _ _ _ _ _ _ _ _ _ _ _ _ _ _ _ _ _ _ _ _ _ _ _ _ _ _ _ _ _ _ _ _ _ _ _ _ _ _ _ _ _ _ _ _ _ _ _ _ _ _ _ _ _ _ _ _ _ _ _ _ _ _ _ _ _ _ _ _ _ _ _ _ _ _ _ _ _ _ _ _ _ _ _ _ _ _ _ _ _ _ _ _ _ _ _ _ _ _ _ _ _ _ _ _ _ _ _ _ _ _ _ _ _ _ _ _ _ _ _ _ _ _ _ _ _ _ _ _ _ _ _ _ _ _ _ _ _ _ _ _ _ _ _ _ _ _ _ _ _ _ _ _ _ _ _ _ ?_;rintro C_ D_ E5 E8 E9 E_ F3 F4 F5 F6 F7 F8 F9 F_ G5 G6 G7 w7 ⟨vs2,Cg,kr7,hZ7,Uc⟩;have Uc:=jW.trans Uc;clear uI VA Dp WK FL jW
   obtain⟨g7,gc7,rfl⟩:∃ g gc,vs2=.slice (some ⟨g,0,none⟩) (ps.length+1) gc:=by
    rcases hZ7.outer.2 with⟨_,h0⟩|⟨g,gc,cur,e,_⟩
    ·simp at h0
    exact⟨g,gc,by rw [e];simp⟩
   have r7:=aA Cg
   go_wp2;refine KU aL x.r.da w5.heap.size rb _ ps ⟨vX its x.fo,x.r.ty,x.r.tt,[]⟩ none 0 (.string x.r.own) (.int .i64 x.r.ty) (.int .i64 x.r.cl) (.int .i64 x.r.tt) nZ (by simp) _ w7 Cg kr7 hZ7 _ _ _ _ _ _ _ _ _ _ _ _ _ _ _ _ _ _ _ _ _ _ _ _ _ _ _ _ _ _ _ _ _ _ _ _ _ _ _ _ _ _ _ _ _ _ _ _ _ _ _ _ _ _ _ _ _ _ _ _ _ _ _ _ _ _ _ _ _ _ _ _ _ _ _ _ _ _ _ _ _ _ _ _ _ _ _ _ _ _ _ _ _ _ _ _ _ _ _ _ _ _ _ _ _ _ _ _ _ _ _ _ _ _ _ _ _ _ _ _ _ _ _ _ _ _ _ _ _ _ _ _ _ _ _ _ _ _ _ _ _ _ _ _ _ _ _ _ _ _ _ _ _ _ _ _ _ _ _ _ _ _ _ _ _ _ _ _ _ _ _ _ _ _ _ _ _ _ _ _ _ _ _ _ ?_;rintro Sy Ta Tc Td Te Tf Tg Ti Tj Tk Tm Tn Tp Tq Tt w8 ⟨u8,R4,hZ8,hb8⟩;have HF:=Nm.aD (aV R4 (aV hZ8 (Uc.trans (hb8.mono (Nat.le_succ _)))));clear R4 hZ8 hb8 Uc;go_wp2;go_roundw
   ·exact⟨k+1,_,_,by omega,by go_num,HF.out.1,HF.out.2.1,HG3.out _,HF.out.2.2⟩
   simp [intOf];omega
  obtain⟨q,hm⟩:∃ q,k=q+1:=⟨k-1,by omega⟩;obtain⟨y,hy⟩:∃ y,S[q]? =some y:=⟨_,gF (by have:=HSL.out;omega)⟩;obtain⟨d0,d1,d2,d3,d4,d5,d6,d7⟩:=fQ aH hy;have g0:((k:Int)==0)=false:=by simp;omega
  have g1:(k:Int)-1=(q:Int):=by omega
  have g2:=fE q
  have hwm:IntKind.i64.wrap (q:Int)=(q:Int):=Go.wrap_small _ (by omega) (by have:=HM.out;omega);have g3:(q:Int)<(m:Int):=by omega
  have HNS:Hid (jM S k x=(!(y.fo.toList==x.fo.toList)||(y.r.ty != x.r.ty))):=by
   show _=_
   rw [hm,jM,hy,ba_eq]
   by_cases h:y.r.ty=x.r.ty<;>simp [h]
  clear aH d0 d2 d3 d4 d6 d7 hy hm;cases hE:(y.fo.toList==x.fo.toList)
  ·have nE:(y.fo.toList != x.fo.toList)=true:=by rw [bne,hE];rfl
   have HNW:Hid (jM S k x=true):=by show _=_;rw [HNS.out,hE];rfl
   go_quiet (fail)
   generalize Fp:World.drewN wq _=wz;have OG:Below wq.heap.size wq wz:=by rw [<- Fp];exact Go.below_drewN (aJ _ _) _
   have uI:=aB FY OG;have Dp:=hZ1.below OG;have VA:=aB kr OG;have jW:=Nm.aC fJ OG
   have HG3:Hid (∀ u':Value,(ps++[(({(⟨vX its x.fo,x.r.ty,x.r.tt,[]⟩:Sz) with da:=[]++[x.r.da]}:Sz),u')]).map (·.1)=nS its S (k+1)):=by
    intro u';rw [tO hx HNW.out,<- HG.out];simp
   obtain⟨b',off',e',aH⟩:=vS wz jW;cases e'
   obtain⟨_,_,_,_,_,FL,_,_⟩:=fQ aH hx
   have yZ:b<w5.heap.size:=by
    obtain⟨b',off',e',aH⟩:=vS w5 (aJ _ _);cases e'
    obtain⟨_,_,_,_,_,FL,_,_⟩:=fQ aH hx;exact fD w5 _ FL
   have WK:=HC5.out.1.below jW;have nZ:ps.length<=500:=by have:=HM.out;omega
   clear Fp OG FY hZ1 kr fJ HNW vS hx aH HG;go_wp2;refine Cf its aL x.fo x.r.ty x.r.tt w5.heap.size rb b off k m n lc uc la va vc ps (.string x.r.own) (.int .i64 x.r.cl) (.string x.r.da) nZ aF0 Fq bY Q_ yZ _ wz uI VA hrz Dp WK FL _ _ _ _ _ _ _ _ _ _ _ _ _ _ _ _ _ _ _ _ _ _ _ _ _ _ _ _ _ _ _ _ _ _ _ _ _ _ _ _ _ _ _ _ _ _ _ _ _ _ _ _ _ _ _ _ _ _ _ _ _ _ _ _ _ _ _ _ _ _ _ _ _ _ _ _ _ _ _ _ _ _ _ _ _ _ _ _ _ _ _ _ _ _ _ _ _ _ _ _ _ _ _ _ _ _ _ _ _ _ _ _ _ _ _ _ _ _ _ _ _ _ _ _ _ _ _ _ _ _ _ _ _ _ _ _ _ _ _ _ _ _ _ _ _ _ _ _ _ _ _ _ _ _ _ _ _ _ _ _ _ _ _ _ _ _ _ _ _ _ _ _ _ _ _ _ _ _ _ _ _ _ ?_;rintro C_ D_ E5 E8 E9 E_ F3 F4 F5 F6 F7 F8 F9 F_ G5 G6 G7 w7 ⟨vs2,Cg,kr7,hZ7,Uc⟩;have Uc:=jW.trans Uc;clear uI VA Dp WK FL jW
   obtain⟨g7,gc7,rfl⟩:∃ g gc,vs2=.slice (some ⟨g,0,none⟩) (ps.length+1) gc:=by
    rcases hZ7.outer.2 with⟨_,h0⟩|⟨g,gc,cur,e,_⟩
    ·simp at h0
    exact⟨g,gc,by rw [e];simp⟩
   have r7:=aA Cg
   go_wp2;refine KU aL x.r.da w5.heap.size rb _ ps ⟨vX its x.fo,x.r.ty,x.r.tt,[]⟩ none 0 (.string x.r.own) (.int .i64 x.r.ty) (.int .i64 x.r.cl) (.int .i64 x.r.tt) nZ (by simp) _ w7 Cg kr7 hZ7 _ _ _ _ _ _ _ _ _ _ _ _ _ _ _ _ _ _ _ _ _ _ _ _ _ _ _ _ _ _ _ _ _ _ _ _ _ _ _ _ _ _ _ _ _ _ _ _ _ _ _ _ _ _ _ _ _ _ _ _ _ _ _ _ _ _ _ _ _ _ _ _ _ _ _ _ _ _ _ _ _ _ _ _ _ _ _ _ _ _ _ _ _ _ _ _ _ _ _ _ _ _ _ _ _ _ _ _ _ _ _ _ _ _ _ _ _ _ _ _ _ _ _ _ _ _ _ _ _ _ _ _ _ _ _ _ _ _ _ _ _ _ _ _ _ _ _ _ _ _ _ _ _ _ _ _ _ _ _ _ _ _ _ _ _ _ _ _ _ _ _ _ _ _ _ _ _ _ _ _ _ _ _ _ ?_;rintro Sy Ta Tc Td Te Tf Tg Ti Tj Tk Tm Tn Tp Tq Tt w8 ⟨u8,R4,hZ8,hb8⟩;have HF:=Nm.aD (aV R4 (aV hZ8 (Uc.trans (hb8.mono (Nat.le_succ _)))));clear R4 hZ8 hb8 Uc;go_wp2;go_roundw
   ·exact⟨k+1,_,_,by omega,by go_num,HF.out.1,HF.out.2.1,HG3.out _,HF.out.2.2⟩
   simp [intOf];omega
  have nE:(y.fo.toList != x.fo.toList)=false:=by rw [bne,hE];rfl
  cases hT:(y.r.ty != x.r.ty) with
  |true=>
   have HNW:Hid (jM S k x=true):=by show _=_;rw [HNS.out,hE,hT];rfl
   go_quiet (fail)
   generalize Fp:World.drewN wq _=wz;have OG:Below wq.heap.size wq wz:=by rw [<- Fp];exact Go.below_drewN (aJ _ _) _
   have uI:=aB FY OG;have Dp:=hZ1.below OG;have VA:=aB kr OG;have jW:=Nm.aC fJ OG
   have HG3:Hid (∀ u':Value,(ps++[(({(⟨vX its x.fo,x.r.ty,x.r.tt,[]⟩:Sz) with da:=[]++[x.r.da]}:Sz),u')]).map (·.1)=nS its S (k+1)):=by
    intro u';rw [tO hx HNW.out,<- HG.out];simp
   obtain⟨b',off',e',aH⟩:=vS wz jW;cases e'
   obtain⟨_,_,_,_,_,FL,_,_⟩:=fQ aH hx
   have yZ:b<w5.heap.size:=by
    obtain⟨b',off',e',aH⟩:=vS w5 (aJ _ _);cases e'
    obtain⟨_,_,_,_,_,FL,_,_⟩:=fQ aH hx;exact fD w5 _ FL
   have WK:=HC5.out.1.below jW;have nZ:ps.length<=500:=by have:=HM.out;omega
   clear Fp OG FY hZ1 kr fJ HNW vS hx aH HG;go_wp2;refine Cf its aL x.fo x.r.ty x.r.tt w5.heap.size rb b off k m n lc uc la va vc ps (.string x.r.own) (.int .i64 x.r.cl) (.string x.r.da) nZ aF0 Fq bY Q_ yZ _ wz uI VA hrz Dp WK FL _ _ _ _ _ _ _ _ _ _ _ _ _ _ _ _ _ _ _ _ _ _ _ _ _ _ _ _ _ _ _ _ _ _ _ _ _ _ _ _ _ _ _ _ _ _ _ _ _ _ _ _ _ _ _ _ _ _ _ _ _ _ _ _ _ _ _ _ _ _ _ _ _ _ _ _ _ _ _ _ _ _ _ _ _ _ _ _ _ _ _ _ _ _ _ _ _ _ _ _ _ _ _ _ _ _ _ _ _ _ _ _ _ _ _ _ _ _ _ _ _ _ _ _ _ _ _ _ _ _ _ _ _ _ _ _ _ _ _ _ _ _ _ _ _ _ _ _ _ _ _ _ _ _ _ _ _ _ _ _ _ _ _ _ _ _ _ _ _ _ _ _ _ _ _ _ _ _ _ _ _ _ ?_;rintro C_ D_ E5 E8 E9 E_ F3 F4 F5 F6 F7 F8 F9 F_ G5 G6 G7 w7 ⟨vs2,Cg,kr7,hZ7,Uc⟩;have Uc:=jW.trans Uc;clear uI VA Dp WK FL jW
   obtain⟨g7,gc7,rfl⟩:∃ g gc,vs2=.slice (some ⟨g,0,none⟩) (ps.length+1) gc:=by
    rcases hZ7.outer.2 with⟨_,h0⟩|⟨g,gc,cur,e,_⟩
    ·simp at h0
    exact⟨g,gc,by rw [e];simp⟩
   have r7:=aA Cg
   go_wp2;refine KU aL x.r.da w5.heap.size rb _ ps ⟨vX its x.fo,x.r.ty,x.r.tt,[]⟩ none 0 (.string x.r.own) (.int .i64 x.r.ty) (.int .i64 x.r.cl) (.int .i64 x.r.tt) nZ (by simp) _ w7 Cg kr7 hZ7 _ _ _ _ _ _ _ _ _ _ _ _ _ _ _ _ _ _ _ _ _ _ _ _ _ _ _ _ _ _ _ _ _ _ _ _ _ _ _ _ _ _ _ _ _ _ _ _ _ _ _ _ _ _ _ _ _ _ _ _ _ _ _ _ _ _ _ _ _ _ _ _ _ _ _ _ _ _ _ _ _ _ _ _ _ _ _ _ _ _ _ _ _ _ _ _ _ _ _ _ _ _ _ _ _ _ _ _ _ _ _ _ _ _ _ _ _ _ _ _ _ _ _ _ _ _ _ _ _ _ _ _ _ _ _ _ _ _ _ _ _ _ _ _ _ _ _ _ _ _ _ _ _ _ _ _ _ _ _ _ _ _ _ _ _ _ _ _ _ _ _ _ _ _ _ _ _ _ _ _ _ _ _ _ ?_;rintro Sy Ta Tc Td Te Tf Tg Ti Tj Tk Tm Tn Tp Tq Tt w8 ⟨u8,R4,hZ8,hb8⟩;have HF:=Nm.aD (aV R4 (aV hZ8 (Uc.trans (hb8.mono (Nat.le_succ _)))));clear R4 hZ8 hb8 Uc;go_wp2;go_roundw
   ·exact⟨k+1,_,_,by omega,by go_num,HF.out.1,HF.out.2.1,HG3.out _,HF.out.2.2⟩
   simp [intOf];omega
  |false=>
   have HNW:Hid (jM S k x=false):=by show _=_;rw [HNS.out,hE,hT];rfl
   go_quiet (fail)
   generalize Fp:World.drewN wq _=wz;have OG:Below wq.heap.size wq wz:=by rw [<- Fp];exact Go.below_drewN (aJ _ _) _
   have uI:=aB FY OG;have Dp:=hZ1.below OG;have VA:=aB kr OG;have jW:=Nm.aC fJ OG;obtain⟨qs,s,Ud⟩:=xP (l:=its) (iT:=S) k (by omega) (by have:=HSL.out;omega);have HD:Hid (s.da.length<=k):=(Aw (l:=its) (iT:=S) k (by have:=HSL.out;omega)).2 s (by rw [Ud];simp)
   obtain⟨JF,u,rfl,IK⟩:∃ JF u,ps=JF++[(s,u)]∧JF.map (·.1)=qs:=by
    have h1:=HG.out;rw [Ud] at h1
    rcases List.eq_nil_or_concat ps with h|⟨JF,p,h⟩
    ·subst h;simp at h1
    subst h;simp only [List.concat_eq_append,List.map_append,List.map_cons,List.map_nil] at h1;obtain⟨h2,h3⟩:=List.append_inj' h1 rfl;simp at h3;exact⟨JF,p.2,by simp [<- h3],h2⟩
   have HG3:Hid (∀ u':Value,(JF++[(({s with da:=s.da++[x.r.da]}:Sz),u')]).map (·.1)=nS its S (k+1)):=by
    intro u';rw [yM hx HNW.out Ud,<- IK];simp
   obtain⟨ux,uc,hu⟩:=aT (Dp.inner JF.length (s,u) (by simp));have hu2:u=.slice ux s.da.length uc:=hu;subst hu2;clear hu;have HPS:Hid (JF.length+1<=k):=by show _<=_;simpa using RG
   clear RG;generalize ES:Value.slice va (JF++[(s,Value.slice ux s.da.length uc)]).length vc=vs2 at*;clear Fp OG FY hZ1 kr fJ HNW HNS Ud IK rr c1 c5 d1 d5 nE hT hE g0 g1 HG hx Ke
   obtain⟨g7,gc7,rfl⟩:∃ g gc,vs2=.slice (some ⟨g,0,none⟩) (JF.length+1) gc:=by
    rcases Dp.outer.2 with⟨_,h0⟩|⟨g,gc,cur,e,_⟩
    ·simp at h0
    exact⟨g,gc,by rw [e];simp⟩
   have r7:=aA uI
   have aLf:JF.length<=500:=by have:=HM.out;have:=HPS.out;omega
   go_wp2;refine KU aL x.r.da w5.heap.size rb _ JF s ux uc (.string x.r.own) (.int .i64 x.r.ty) (.int .i64 x.r.cl) (.int .i64 x.r.tt) aLf (by have:=HD.out;have:=HM.out;omega) _ wz uI VA Dp _ _ _ _ _ _ _ _ _ _ _ _ _ _ _ _ _ _ _ _ _ _ _ _ _ _ _ _ _ _ _ _ _ _ _ _ _ _ _ _ _ _ _ _ _ _ _ _ _ _ _ _ _ _ _ _ _ _ _ _ _ _ _ _ _ _ _ _ _ _ _ _ _ _ _ _ _ _ _ _ _ _ _ _ _ _ _ _ _ _ _ _ _ _ _ _ _ _ _ _ _ _ _ _ _ _ _ _ _ _ _ _ _ _ _ _ _ _ _ _ _ _ _ _ _ _ _ _ _ _ _ _ _ _ _ _ _ _ _ _ _ _ _ _ _ _ _ _ _ _ _ _ _ _ _ _ _ _ _ _ _ _ _ _ _ _ _ _ _ _ _ _ _ _ _ _ _ _ _ _ _ _ _ _ ?_;have Uc:=jW;rintro Sy Ta Tc Td Te Tf Tg Ti Tj Tk Tm Tn Tp Tq Tt w8 ⟨u8,R4,hZ8,hb8⟩;have HF:=Nm.aD (aV R4 (aV hZ8 (Uc.trans (hb8.mono (Nat.le_succ _)))));clear R4 hZ8 hb8 Uc;go_wp2;go_roundw
   ·exact⟨k+1,_,_,by omega,by go_num,HF.out.1,HF.out.2.1,HG3.out _,HF.out.2.2⟩
   simp [intOf];omega
 obtain rfl:k=m:=by omega
 go_wp2;exact⟨_,ps,kz,hZ,by rw [HSL.out];exact HG.out,aG⟩
def Lp(list:List Rr)(aL:ByteArray)(w:World)(e:Ending)(w':World):Prop:=
 Below w.heap.size w w'∧((iX list aL).1=0->∃ v ps,e=.returned (.tuple #[.agg #[.string aL,v],.int .i64 0,.int .i64 0])∧ps.map (·.1)=zI list∧dF w' w.heap.size v ps)∧
  ((iX list aL).1≠0->e=.returned (.tuple #[.agg #[.string ByteArray.empty,.slice none 0 0],.int .i64 (iX list aL).1,.int .i64 (iX list aL).2]))
theorem Ch{list:List Rr}{aL:ByteArray}{w w':World}{c i:Int}(hb:Below w.heap.size w w')(h:iX list aL=(c,i))(hc:c≠0):Lp list aL w (.returned (.tuple #[.agg #[.string ByteArray.empty,.slice none 0 0],.int .i64 c,.int .i64 i])) w':=
 ⟨hb,fun h0=>absurd (by rw [h] at h0;exact h0) hc,fun _=>by rw [h]⟩
theorem KV{W:World}{b:Nat}{x0 x1:Value}{c i:Int}{R:Ending->World->Prop}{a:Act}(h:bW W b #[x0,x1] 25)
 (h4:a.tmps[4]? =some (.pointer (some ⟨b,0,none⟩))) (h5:a.tmps[5]? =some (.int .i64 c)) (h6:a.tmps[6]? =some (.int .i64 i)) (hd:a.defers=[])
 (hR:R (.returned (.tuple #[.agg #[x0,x1],.int .i64 c,.int .i64 i])) W):bodyPost Tryz.prog Tryz.f41 R .ret a W:=by
 refine eB ?_ hd hR;have r:=aA h
 simp [results,Tryz.results41,go_sem,Result.andThen,r,h4,h5,h6]
theorem R5(s:ByteArray)(h:s.size<=maxLen):(Nm.dV s).size<=maxLen:=by
 unfold Nm.dV;split
 ·rw [Nm.qW];exact h
 unfold maxLen;simp
theorem oD(v:Value)(list:List Rr)(aL:ByteArray)(w:World)(h:dZ w v list.length 5 (jC list))(hl:list.length<=1048576)(ha:aL.size<=maxLen)(ho:∀ r∈list,r.own.size<=maxLen):
 Calls Tryz.prog 41 #[v,.string aL] w (Lp list aL w):=by
 obtain⟨i0,hi,iQ,iH,iI⟩:=info_parts Tryz.Ua;have hN:=fun W=>iM aL W ha
 have yY:=(aJ w.heap.size w).alloc (aI _) (.cells #[.string ByteArray.empty,.slice none 0 0] 25);have LJ:=aK w #[.string ByteArray.empty,.slice none 0 0] 25;have dI:=h.below yY;obtain⟨_,a,cap,rfl,gT,kV,_⟩:=h;unfold maxLen at kV;have hE:iX list aL=_:=rfl;unfold iX at hE;cases lC:(Nm.split aL).isSome
 ·have HR:Hid (iX list aL=(32,-1)):=by show _=_;rw [iX,if_pos lC]
  simp only [lC] at hN;have hN':=hN (w.alloc (.cells #[.string ByteArray.empty,.slice none 0 0] 25));clear hE dI;go_enter Tryz.func41,Tryz.ntmps41;go_wp2_with fail
  refine hN'.mono ?_;rintro e w1 ⟨rfl,b1⟩;have k1:=aB LJ b1;have r1:=aA k1
  have f1:=aF k1
  have X:=Nm.aD (aV (dH [.string ByteArray.empty,.slice none 0 0] k1 rfl) (Nm.aC yY b1));simp only [bG,Nat.zero_add] at X;go_wp2;refine KV X.out.1 rfl rfl rfl rfl ?_;exact Ch ((X.out.2.setCell (aI _) _).setCell (aI _) _) HR.out (by decide)
 simp only [lC] at hN;have hN':=hN (w.alloc (.cells #[.string ByteArray.empty,.slice none 0 0] 25))
 by_cases ZX:500<list.length
 ·have HR:Hid (iX list aL=(12,-1)):=by show _=_;rw [iX,if_neg (by simp [lC]),if_pos ZX]
  have hb':(500:Int)<(list.length:Int):=by omega
  clear hE dI hN;go_enter Tryz.func41,Tryz.ntmps41;go_wp2_with fail
  refine hN'.mono ?_;rintro e w1 ⟨rfl,b1⟩;have k1:=aB LJ b1;have r1:=aA k1
  have f1:=aF k1
  have X:=Nm.aD (aV (dH [.string ByteArray.empty,.slice none 0 0] k1 rfl) (Nm.aC yY b1));simp only [bG,Nat.zero_add] at X;go_wp2;refine KV X.out.1 rfl rfl rfl rfl ?_;exact Ch ((X.out.2.setCell (aI _) _).setCell (aI _) _) HR.out (by decide)
 have hb':(list.length:Int)<=500:=by omega
 have HR:Hid (iX list aL=match gB aL list 0 with
  |some (c,i)=>(c,(i:Int))
  |none=>if 0<=vY (list.map bH) then(24,vY (list.map bH)) else if(fZ (bK list) (Nm.dV aL)).1≠0 then fZ (bK list) (Nm.dV aL) else(0,0)):=by show _=_;rw [iX,if_neg (by simp [lC]),if_neg ZX];rfl
 clear hE hN hl;go_enter Tryz.func41,Tryz.ntmps41;go_wp2_with fail
 refine hN'.mono ?_;rintro e w1 ⟨rfl,b1⟩;have k1:=aB LJ b1;have B1:=Nm.aC yY b1;have IM:=dI.below b1;have aM5:w.heap.size<w1.heap.size:=cO k1;have o0:=World.ownsRow_lit (base:=w1.heap.size) (e:=141) (size:=8) w1 #[] 0 (aI _) (by decide) rfl;have B_:=Nm.aD (aV IM k1);clear hN' yY LJ dI b1 IM k1;go_wp2
 go_loopw [7,8] (fun vl vi wr=>∃ k:Nat,k<=list.length∧vi=.int .i64 k∧Hid (∀ (j:Nat) (r:Rr),j<k->list[j]? =some r->pW r aL=0)∧wr.ownsRow w1.heap.size 141 8 vl k (fK ((list.take k).map bH))∧Below w1.heap.size w1 wr) (fun _ vi _=>list.length-(intOf vi).toNat)
 ·exact⟨0,dR _,rfl,by show ∀ _,_;intro j r hj;omega,o0,(aJ _ _).alloc (aI _) _⟩
 clear o0;obtain⟨k,hk,rfl,HA,oL,aG⟩:=hrel
 by_cases bY:k<list.length
 ·obtain⟨r,hr⟩:=gQ bY;have lN:=Yp r aL wr (ho r (dA hr)) ha
  have hS:∀ W,Below w1.heap.size w1 W->(∃ b off,a=some ⟨b,off,none⟩∧W.cell? ⟨b,off+k*5,none⟩=some (.string r.own)∧W.cell? ⟨b,off+k*5+1,none⟩=some (.int .i64 r.ty)∧W.cell? ⟨b,off+k*5+2,none⟩=some (.int .i64 r.cl)∧W.cell? ⟨b,off+k*5+3,none⟩=some (.int .i64 r.tt)∧W.cell? ⟨b,off+k*5+4,none⟩=some (.string r.da)):=by
   intro W hW;obtain⟨_,a',c',e',_,_,hc⟩:=B_.out.1.below hW;simp only [gK] at e';obtain⟨rfl,_,rfl⟩:=e';obtain⟨b,off,rfl,aH⟩:=hc (by omega);exact⟨b,off,rfl,BF aH hr⟩
  obtain⟨b,off,rfl,c0,c1,c2,c3,c4⟩:=hS wr aG;have n1:=fE k
  have n2:(k:Int)<(list.length:Int):=by omega
  have HX:=Nm.aD hr;clear hr
  by_cases PG:pW r aL=0
  ·have Wt:∀ W,Below w1.heap.size w1 W->(W.cell? ⟨b,off+k*5,none⟩=some (.string r.own)∧W.cell? ⟨b,off+k*5+1,none⟩=some (.int .i64 r.ty)∧W.cell? ⟨b,off+k*5+2,none⟩=some (.int .i64 r.cl)∧W.cell? ⟨b,off+k*5+3,none⟩=some (.int .i64 r.tt)∧W.cell? ⟨b,off+k*5+4,none⟩=some (.string r.da)):=by
    intro W hW;obtain⟨b',off',e,hh⟩:=hS W hW;cases e
    exact hh
   have mQ:(pW r aL != 0)=false:=by simp [PG]
   have HA2:Hid (∀ (j:Nat) (x:Rr),j<k+1->list[j]? =some x->pW x aL=0):=by
    intro j x hj hx
    by_cases hjk:j=k
    ·subst hjk;rw [HX.out] at hx;obtain rfl:=jI hx;exact PG
    exact HA.out j x (by omega) hx
   have HT:Hid (fK ((list.take k).map bH)++FI (bH r)=fK ((list.take (k+1)).map bH)):=by
    show _=_
    obtain⟨vT,e⟩:=dL HX.out;rw [List.take_succ_eq_append_getElem vT,e,List.map_append,<- xJ];rfl
   have hfn:=fun W=>mE r.own W (ho r (dA HX.out))
   have Na:=fun W=>TE r.ty r.da W
   rw [bH] at HT;generalize Nm.dV r.own=FN at*;generalize oV r.ty r.da=FD at*;clear hS HA;obtain⟨la,lc,hlv⟩:=aT oL;subst hlv;rw [PG] at lN;clear PG mQ;go_wp2_with fail
   refine lN.mono ?_;rintro e w2 ⟨rfl,b2⟩;go_wp2;refine kR (fun W=>W.cell? ⟨b,off+k*5,none⟩=some (.string r.own)∧W.cell? ⟨b,off+k*5+1,none⟩=some (.int .i64 r.ty)∧W.cell? ⟨b,off+k*5+2,none⟩=some (.int .i64 r.cl)∧W.cell? ⟨b,off+k*5+3,none⟩=some (.int .i64 r.tt)∧W.cell? ⟨b,off+k*5+4,none⟩=some (.string r.da)) 1000 (Wt _ (Nm.aC aG b2.drew)) fun aY=>?_;refine kB 0 rfl ?_;refine kB 1 rfl ?_;refine kB 2 rfl ?_;refine kB 3 rfl ?_;refine kB 4 rfl ?_;refine kB 5 rfl ?_;refine kB 6 rfl ?_;refine kB 7 rfl ?_;refine kB 8 rfl ?_;refine kB 9 rfl ?_;refine kB 11 rfl ?_;refine kB 12 rfl ?_;refine kB 13 rfl ?_;refine kB 14 rfl ?_;refine kB 15 rfl ?_;refine kB 16 rfl ?_;refine kB 17 rfl ?_;refine kB 18 rfl ?_;refine kB 19 rfl ?_;refine kB 20 rfl ?_;refine k1 10 rfl fun K hK=>?_
   go_simp;refine(hfn _).mono ?_;rintro e w3 ⟨rfl,b3⟩;go_wp2_with fail
   have b23:Below wr.heap.size wr w3:=Nm.aC b2.drew b3;refine hK.out _ _ (Wt _ (Nm.aC aG b23)) fun _=>?_;clear hK K;refine k1 21 rfl fun K hK=>?_
   go_simp;refine(Na _).mono ?_;rintro e w4 ⟨rfl,b4⟩;go_wp2_with fail
   have b24:Below wr.heap.size wr w4:=Nm.aC b23 b4;refine hK.out _ _ (Wt _ (Nm.aC aG b24)) fun aY=>?_;clear hK K;refine kB 22 rfl ?_;refine k1 23 rfl fun K hK=>?_
   go_simp;refine hK.out _ _ (Wt _ (Nm.aC aG (b24.alloc b24.size _))) fun _=>?_;clear hK K;refine k1 24 rfl fun K hK=>?_
   refine nD rfl (.tmp 45) (.tmp 68) 137 rfl w1.heap.size 141 i0 _ 8 96 Tryz.underlying137 hi iQ iH iI rfl (by decide) _ _ _ (by rfl) (own_below (own_below oL b24) ((aJ _ _).alloc (aI _) _)) ⟨w4.heap.size,0,none⟩ 1 1 [.string r.own,.int .i64 r.ty,.int .i64 r.cl,.int .i64 r.tt,.string r.da,.string FN,.string FD,.bool false] (by rfl) rfl (eZ _ _ _) (by intro u hu;simp at hu;rcases hu with rfl|rfl|rfl|rfl|rfl|rfl|rfl|rfl<;>rfl) (by unfold maxLen;omega) (by omega) (by have:=aG.size;have:=b24.size;simp;omega) ?_;intro va wa yV nA BK;have b9:Below w1.heap.size w1 wa:=((Nm.aC aG b24).alloc (Nm.aC aG b24).size _).grown nA (by have:=aG.size;have:=b24.size;simp;omega) (fun g hg=>(oL.lt g hg).1);rw [show(fK ((list.take k).map bH)++[.string r.own,.int .i64 r.ty,.int .i64 r.cl,.int .i64 r.tt,.string r.da,.string FN,.string FD,.bool false])=fK ((list.take (k+1)).map bH) from HT.out] at yV;refine hK.out _ _ (Wt _ b9) fun _=>?_;clear hK K;refine kB 25 rfl ?_;refine kN ?_;go_wp2;go_roundw
   ·exact⟨k+1,by omega,by go_num,HA2,yV,b9⟩
   simp [intOf];omega
  have HB:Hid (iX list aL=(pW r aL,(k:Int))):=by
   show _=_
   rw [HR.out,TJ list k 0 r HA.out HX.out PG];simp
  have mQ:(pW r aL != 0)=true:=by simpa using PG
  have HC:=Nm.aD PG;clear PG hS HA;generalize pW r aL=C at*;go_wp2_with fail
  refine lN.mono ?_;rintro e w2 ⟨rfl,b2⟩;have k2:=aB (aB B_.out.2 aG) b2;have r2:=aA k2
  have f2:=aF k2
  have B2:=Nm.aC (Nm.aC B1 aG) b2;have X:=Nm.aD (aV (dH [.string ByteArray.empty,.slice none 0 0] k2 rfl) B2);simp only [bG,Nat.zero_add] at X;go_wp2;refine KV X.out.1 rfl rfl rfl rfl ?_;exact Ch ((X.out.2.setCell (aI _) _).setCell (aI _) _) HB.out HC.out
 obtain rfl:k=list.length:=by omega
 have n3:(list.length:Int)<=(list.length:Int):=by omega
 rw [List.take_length] at oL;have EA:(list.map bH).length=list.length:=List.length_map ..
 have HR2:Hid (iX list aL=if 0<=vY (list.map bH) then(24,vY (list.map bH)) else if(fZ (bK list) (Nm.dV aL)).1≠0 then fZ (bK list) (Nm.dV aL) else(0,0)):=by
  show _=_
  rw [HR.out,Hg list 0 HA.out]
 have htw:=Lc _ (list.map bH) w1.heap.size wr (by rw [EA];exact oL) aG.size (by omega);rw [EA] at htw
 have hru:=fun W v (h:dZ W v (bK list).length 8 (fK (bK list)))=>Ll v (bK list) aL W h (by rw [bK,kG,EA];omega) ha (by
  intro x hx;obtain⟨i,hi⟩:=List.getElem?_of_mem hx;have bY:=(dL hi).1;rw [bK,kG] at bY;have h2:=mY (gF bY);rw [bK,h2] at hi;obtain rfl:=jI hi;simp only [qG,List.getElem_map,bH]
  exact R5 _ (ho _ (List.getElem_mem _)))
 have aLn:(bK list).length=list.length:=by rw [bK,kG,EA]
 rw [aLn] at hru;rw [show FX (list.map bH)=bK list from rfl] at htw;clear HA HR EA;generalize vY (list.map bH)=BD at*;obtain⟨la,lc,hlv⟩:=aT oL;subst hlv;go_wp2_with fail
 refine htw.mono ?_;rintro e w2 ⟨rfl,o2,b2⟩;have k2:bW w2 w.heap.size #[.string ByteArray.empty,.slice none 0 0] 25:=((aG.trans b2).block _ aM5).trans B_.out.2;have B2:Below w.heap.size w w2:=B1.trans ((aG.trans b2).mono (by omega));have r2:=aA k2
 have f2:=aF k2
 clear htw oL
 by_cases N7:0<=BD
 ·have HB:Hid (iX list aL=(24,BD)):=by show _=_;rw [HR2.out,if_pos N7]
  have X:=Nm.aD (aV (dH [.string ByteArray.empty,.slice none 0 0] k2 rfl) B2);simp only [bG,Nat.zero_add] at X;clear hru HR2;go_wp2;refine KV X.out.1 rfl rfl rfl rfl ?_;exact Ch ((X.out.2.setCell (aI _) _).setCell (aI _) _) HB.out (by decide)
 have aRv:BD<0:=by omega
 have aLo:=hru w2 _ (dZ.aP o2);clear hru;generalize hRU:fZ (bK list) (Nm.dV aL)=RU at*;obtain⟨rc,ri⟩:=RU;simp only at aLo HR2
 clear hRU;go_wp2_with fail
 refine aLo.mono ?_;rintro e w3 ⟨rfl,b3⟩;have k3:=aB k2 b3;have B3:=Nm.aC B2 b3;have o3:=own_below o2 b3;have r3:=aA k3
 have f3:=aF k3
 clear r2 f2 k2 B2 o2 aLo
 by_cases hrc:rc=0
 ·subst hrc;have HB:Hid ((iX list aL).1=0):=by show _=_;rw [HR2.out,if_neg (by omega),if_neg (by simp)]
  have nrc:((0:Int) != 0)=false:=rfl
  have aPl:∀ x∈bK list,x.fo.size<=maxLen:=by
   intro x hx;obtain⟨i,hi⟩:=List.getElem?_of_mem hx;have bY:=(dL hi).1;rw [bK,kG] at bY;have h2:=mY (gF bY);rw [bK,h2] at hi;obtain rfl:=jI hi;simp only [qG,List.getElem_map,bH];exact R5 _ (ho _ (List.getElem_mem _))
  have aPm:Hid (jX (IY list).length (IY list)=lU list):=rfl;have HBZ:Hid (nS (bK list) (lU list) (lU list).length=zI list):=rfl;have HRS:Hid ((bK list).filter (fun x=> !x.out)=IY list):=rfl;have HC3:=Nm.aD (dZ.aP o3);have o0:=World.ownsRow_lit (base:=w3.heap.size) (e:=141) (size:=8) w3 #[] 0 (aI _) (by decide) rfl;have HK3:=Nm.aD (aV k3 B3);have YY:w.heap.size<w3.heap.size:=cO k3;have HFO:=Nm.aD aPl;have Fq:=Nm.aD aLn;clear HR2 N7 aRv k3 B3 o3 r3 f3 aPl B_ b2 b3 aG aLn;generalize bK list=its at*;go_wp2
  go_loopw [13,14] (fun vr vi wr=>∃ (k:Nat) (R:List It),k<=list.length∧vi=.int .i64 k∧Hid ((its.take k).filter (fun x=> !x.out)=R∧R.length<=k)∧wr.ownsRow w3.heap.size 141 8 vr R.length (fK R)∧Below w3.heap.size w3 wr) (fun _ vi _=>list.length-(intOf vi).toNat)
  ·exact⟨0,[],dR _,rfl,⟨by simp,aI _⟩,o0,(aJ _ _).alloc (aI _) _⟩
  clear o0;obtain⟨k,R,hk,rfl,HRR,oR,aG⟩:=hrel;obtain⟨ra,rcp,hrv⟩:=aT oR;subst hrv
  by_cases bY:k<list.length
  ·obtain⟨x,hx⟩:∃ x,its[k]? =some x:=⟨_,gF (by have:=Fq.out;omega)⟩;obtain⟨_,a',c',e',_,_,hc⟩:=HC3.out.below aG;simp only [gK] at e';obtain⟨rfl,_,rfl⟩:=e';obtain⟨b,off,rfl,aH⟩:=hc (by omega);obtain⟨c0,c1,c2,c3,c4,c5,c6,c7⟩:=fQ aH hx;have n1:=fE k
   have n2:(k:Int)<(list.length:Int):=by omega
   have HTK:Hid (its.take (k+1)=its.take k++[x]):=by
    show _=_
    obtain⟨vT,e⟩:=dL hx;rw [List.take_succ_eq_append_getElem vT,e]
   clear aH hc hx
   cases hO:x.out with
   |true=>
    rw [hO] at c7;go_wp2;go_roundw
    ·exact⟨k+1,R,by omega,by go_num,⟨by rw [HTK.out,List.filter_append,HRR.out.1];simp [hO],by have:=HRR.out.2;omega⟩,oR,aG⟩
    simp [intOf];omega
   |false=>
    have HX:Hid (fK R++FI x=fK (R++[x])):=(xJ R x).symm;have hRk:=HRR.out.2;have HRk:=Nm.aD hRk;rw [hO] at c7;go_wp2_with (at_builtin;refine wpList_append_own _ rfl (.tmp 100) (.tmp 105) 137 rfl w3.heap.size 141 i0 _ 8 96 Tryz.underlying137 hi iQ iH iI rfl (by decide) _ _ _ rfl (own_below oR ((aJ _ _).alloc (aI _) _)) ⟨wr.heap.size,0,none⟩ 1 1 [.string x.r.own,.int .i64 x.r.ty,.int .i64 x.r.cl,.int .i64 x.r.tt,.string x.r.da,.string x.fo,.string x.dt,.bool false] rfl rfl (eZ _ _ _) (by intro u hu;simp at hu;rcases hu with rfl|rfl|rfl|rfl|rfl|rfl|rfl|rfl<;>rfl) (by unfold maxLen;omega) (by omega) (by have:=aG.size;simp;omega) ?_;intro va wa yV nA BK)
    rw [show(fK R++[.string x.r.own,.int .i64 x.r.ty,.int .i64 x.r.cl,.int .i64 x.r.tt,.string x.r.da,.string x.fo,.string x.dt,.bool false])=fK (R++[x]) from by rw [<- HX.out,FI,hO]] at yV;go_wp2;go_roundw
    ·exact⟨k+1,R++[x],by omega,by go_num,⟨by rw [HTK.out,List.filter_append,HRR.out.1];simp [hO],by have:=HRk.out;simp;omega⟩,by simpa using yV,(aG.alloc aG.size _).grown nA (by have:=aG.size;simp;omega) (fun g hg=>(oR.lt g hg).1)⟩
    simp [intOf];omega
  obtain rfl:k=list.length:=by omega
  have n3:(list.length:Int)<=(list.length:Int):=by omega
  have HRL:Hid (R=IY list):=by
   show _=_
   have h1:=HRR.out.1;rw [List.take_of_length_le (by rw [Fq.out];omega),HRS.out] at h1;exact h1.symm
  have Dk:=HRR.out.2;have hso:=Ub R.length _ R wr (dZ.aP oR) (aI _) (by omega) (fun x hx=>HFO.out x (by rw [HRL.out,<- HRS.out] at hx;exact(List.mem_filter.1 hx).1));have HSL:Hid ((jX R.length R).length=R.length):=BZ _ _;have HSE:Hid (jX R.length R=lU list):=by show _=_;rw [HRL.out];exact aPm.out
  have HLE:=Nm.aD Dk;clear HRR HRS aPm HRL Dk;generalize jX R.length R=S at*;go_wp2_with fail
  refine hso.mono ?_;rintro e w5 ⟨u5,rfl,hS5,b5⟩;obtain⟨ua,uc,hu5⟩:∃ a c,u5=.slice a R.length c:=by obtain⟨_,a,c,e,_⟩:=hS5;exact⟨a,c,e⟩
  subst hu5;have b35:Below w3.heap.size w3 w5:=Nm.aC aG b5;have k5:bW w5 w.heap.size #[.string ByteArray.empty,.slice none 0 0] 25:=(b35.block _ YY).trans HK3.out.1;have B5:Below w.heap.size w w5:=HK3.out.2.trans (b35.mono (by omega));have aRw:w.heap.size<w5.heap.size:=cO k5;have HC5:=Nm.aD (aV (HC3.out.below b35) (aV hS5 (aV k5 B5)));have X:=Nm.aD (aV (aK w5 #[.string aL,.slice none 0 0] 25) ((aJ w5.heap.size w5).alloc (aI _) (.cells #[.string aL,.slice none 0 0] 25)));clear hso oR aG b5 b35 k5 B5 hS5 HK3 HC3;go_wp2;refine Bv (Pr:=fun W=>bW W w5.heap.size #[.string aL,.slice none 0 0] 25∧Below w5.heap.size w5 W) (G:=fun W=>Code.wp _ _ _ _ W) X.out ?_;rintro w6 ⟨kz6,b6⟩;clear X;refine aCh its S aL _ _ list.length R.length _ _ _ w5 w6 (by have:=HLE.out;omega) (by omega) HSL Fq (aV HC5.out.1 HC5.out.2.1) kz6 b6 _ _ _ _ _ _ _ _ _ _ _ _ _ _ _ _ _ _ _ _ _ _ _ _ _ _ _ _ _ _ _ _ _ _ _ _ _ _ _ _ _ _ _ _ _ _ _ _ _ _ _ _ _ _ _ _ _ _ _ _ _ _ _ _ _ _ _ _ _ _ _ _ _ _ _ _ _ _ _ _ _ _ _ _ _ _ _ _ _ _ _ _ _ _ _ _ _ _ _ _ _ _ _ _ _ _ _ _ _ _ _ _ _ _ _ _ _ _ _ _ _ _ _ _ _ _ _ _ _ _ _ _ _ _ _ _ _ _ _ _ _ _ _ _ _ _ _ _ _ _ _ _ _ _ _ _ _ _ _ _ _ _ _ _ _ _ _ _ _ _ _ _ _ _ _ _ _ _ _ _ _ _ _ ?_;rintro u16 u17 u18 aOe aOf aOg aOh aOi aOj aOk aOl aOm aOn aOo aOp aOq aOr aOs aOt aOu aOv aOw aOx aOy aOz aO0 aO1 aO2 aO3 aO4 aO5 aO6 aO7 aO8 aO9 aPa aPb aPc aPd aPe aPf aPg C_ D_ E5 E8 E9 E_ F3 F4 F5 F6 F7 F8 F9 F_ G5 G6 G7 aPh aPi aPj aPk Sy Ta Tc Td Te Tf Tg Ti Tj Tk Tm Tn Tp Tq Tt w7 ⟨vs,ps,kz,hZ,hG,aG⟩;obtain⟨va,vc,hvs⟩:=aT hZ.outer;subst hvs;have kq:=(aG.block _ aRw).trans HC5.out.2.2.1;have rz:=aA kz
  have rq:=aA (show bW w7 w.heap.size _ _ from kq)
  have fq:=aF (show bW w7 w.heap.size _ _ from kq)
  have BW:Below w.heap.size w w7:=HC5.out.2.2.2.trans (aG.mono (by omega));have X:=Nm.aD (aV (dH [.string aL,.slice va ps.length vc] (show bW w7 w.heap.size _ _ from kq) rfl) (aV ((BW.setCell (p:=⟨w.heap.size,0,none⟩) (aI _) (.string aL)).setCell (p:=⟨w.heap.size,1,none⟩) (aI _) (.slice va ps.length vc)) ((hZ.far (g:=w.heap.size) (i:=0) (y:=.string aL) (by omega)).far (g:=w.heap.size) (i:=1) (y:=.slice va ps.length vc) (by omega))));simp only [bG,Nat.zero_add] at X
  have HZB:Hid (ps.map (·.1)=zI list):=by
   show _=_
   rw [hG,<- HBZ.out,<- HSE.out]
  clear kq hZ hG;go_wp2;refine KV X.out.1 rfl rfl rfl rfl ?_;exact⟨X.out.2.1,fun _=>⟨_,ps,rfl,HZB.out,X.out.2.2.base (by omega)⟩,fun h=>absurd HB.out h⟩
 have HB:Hid (iX list aL=(rc,ri)):=by show _=_;rw [HR2.out,if_neg (by omega),if_pos hrc]
 have HRC:=Nm.aD hrc;have nrc:(rc != 0)=true:=by simpa using hrc
 have X:=Nm.aD (aV (dH [.string ByteArray.empty,.slice none 0 0] k3 rfl) B3);simp only [bG,Nat.zero_add] at X;clear hrc;go_wp2;refine KV X.out.1 rfl rfl rfl rfl ?_;exact Ch ((X.out.2.setCell (aI _) _).setCell (aI _) _) HB.out HRC.out
