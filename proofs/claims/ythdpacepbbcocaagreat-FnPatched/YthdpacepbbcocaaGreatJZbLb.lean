import Derived.Test.YthdpacepbbcocaaGreatJICheck
set_option linter.unusedVariables false
set_option maxRecDepth 1000000
set_option maxHeartbeats 16000000
namespace Go.Proofs.YthdpacepbbcocaaGreat
open Go.RowKit
theorem YB(its:List It)(aM fo:ByteArray)(ty tt:Int)(zb rb b off k m n lc uc:Nat)(la va:Option Addr)(vc:Nat)(ps:List Zp)(r0 r2 r4:Value)(pG:ps.length<=500)(hn:n<=500)(Bp:Hid (its.length=n))(hkm:k<m)(hm:m<=500)(vY:b<zb)(Q0:Exit->Act->World->Prop)(wz:World)
 (sV:bG wz zb #[.string aM,.slice va ps.length vc] 25) (JE:bG wz rb #[r0,.int .i64 ty,r2,.int .i64 tt,r4] 29) (hrz:rb≠zb) (ZM:dH wz (zb+1) (.slice va ps.length vc) ps)
 (TH:bS wz (.slice la n lc) n 8 (fD its)) (yN:wz.cell? ⟨b,off+k*8+5,none⟩=some (.string fo))
 (s0 s1 s2 s3 s4 s5 s6 s8 s9 s10 s11 s12 s14 s18 s19 s20 s21 s22 s23 s24 s25 s26 s27 s28 s29 s30 s31 s32 s33 s34 s35 s36 s37 s38 s39 s40 s41 s42 s43 s44 s45 s46 s47 s48 s49 s50 s51 s52 s53 s54 s55 s56 s57 s58 s59 s60 s61 s62 s63 s64 s65 s66 s67 s68 s69 s70 s71 s72 s73 s74 s75 s76 s77 s78 s79 s80 s81 s82 s83 s84 s85 s86 s87 s88 s89 s90 s91 s92 s93 s94 s95 s96 s97 s98 s99 Oo Oq Ot Ou Ov Ow Ox Oy Pb Pd Pe Vv Vw Vx Vy We Wh Wi Wj Wl Wm Wn Wo Wp Wq Ws Wt Wu Wv Ww Wx Wy Wz Xa Xb Xc Xd Xe Xf Xg Xh Xi Xj Xk Xl Xm Xn Xo Xp Xq aC1 aC2 aC3 aC4 aC5 aC6 aC7 aC8 aC9 aDa aDb aDc aDd aDe aDf aDg aDh Xr Xt Xu Xv aDi aDj aDk aDl aDm aDn aDo aDp aDq aDr aDs aDt aDu aDv aDw Pf:Value)
 (Pg:∀ (Yp Yq Yr Yt Yu Yv Yw Yx Yy Yz Za Zc Zd Ze Zf Zg Zh:Value) (w':World),(∃ vs',bG w' zb #[.string aM,vs'] 25∧bG w' rb #[r0,.int .i64 ty,r2,.int .i64 tt,r4] 29∧dH w' (zb+1) vs' (ps++[((⟨nW its fo,ty,tt,[]⟩:Sz),.slice none 0 0)])∧Below zb wz w')->Q0 .normal ⟨(s0::s1::s2::s3::s4::s5::s6::.slice la n lc::s8::s9::s10::s11::s12::.slice (some ⟨b,off,none⟩) m uc::s14::.pointer (some ⟨zb,0,none⟩)::.int .i64 (k:Int)::.pointer (some ⟨rb,0,none⟩)::s18::s19::s20::s21::s22::s23::s24::s25::s26::s27::s28::s29::s30::s31::s32::s33::s34::s35::s36::s37::s38::s39::s40::s41::s42::s43::s44::s45::s46::s47::s48::s49::s50::s51::s52::s53::s54::s55::s56::s57::s58::s59::s60::s61::s62::s63::s64::s65::s66::s67::s68::s69::s70::s71::s72::s73::s74::s75::s76::s77::s78::s79::s80::s81::s82::s83::s84::s85::s86::s87::s88::s89::s90::s91::s92::s93::s94::s95::s96::s97::s98::s99::Oo::Oq::Ot::Ou::Ov::Ow::Ox::Oy::Pb::Pd::Pe::Vv::Vw::Vx::Vy::We::Wh::Wi::Wj::Wl::Wm::Wn::Wo::Wp::Wq::Ws::Wt::Wu::Wv::Ww::Wx::Wy::Wz::Xa::Xb::Xc::Xd::Xe::Xf::Xg::Xh::Xi::Xj::Xk::Xl::Xm::Xn::Xo::Xp::Xq::Yp::Yq::Yr::Yt::Yu::Yv::Yw::Yx::Yy::Yz::Za::Zc::Zd::Ze::Zf::Zg::Zh::Xr::Xt::Xu::Xv::aDi::aDj::aDk::aDl::aDm::aDn::aDo::aDp::aDq::aDr::aDs::aDt::aDu::aDv::aDw::Pf::[]).toArray,[]⟩ w'):
 Code.wp Tryz.prog bzN Q0 ⟨(s0::s1::s2::s3::s4::s5::s6::.slice la n lc::s8::s9::s10::s11::s12::.slice (some ⟨b,off,none⟩) m uc::s14::.pointer (some ⟨zb,0,none⟩)::.int .i64 (k:Int)::.pointer (some ⟨rb,0,none⟩)::s18::s19::s20::s21::s22::s23::s24::s25::s26::s27::s28::s29::s30::s31::s32::s33::s34::s35::s36::s37::s38::s39::s40::s41::s42::s43::s44::s45::s46::s47::s48::s49::s50::s51::s52::s53::s54::s55::s56::s57::s58::s59::s60::s61::s62::s63::s64::s65::s66::s67::s68::s69::s70::s71::s72::s73::s74::s75::s76::s77::s78::s79::s80::s81::s82::s83::s84::s85::s86::s87::s88::s89::s90::s91::s92::s93::s94::s95::s96::s97::s98::s99::Oo::Oq::Ot::Ou::Ov::Ow::Ox::Oy::Pb::Pd::Pe::Vv::Vw::Vx::Vy::We::Wh::Wi::Wj::Wl::Wm::Wn::Wo::Wp::Wq::Ws::Wt::Wu::Wv::Ww::Wx::Wy::Wz::Xa::Xb::Xc::Xd::Xe::Xf::Xg::Xh::Xi::Xj::Xk::Xl::Xm::Xn::Xo::Xp::Xq::aC1::aC2::aC3::aC4::aC5::aC6::aC7::aC8::aC9::aDa::aDb::aDc::aDd::aDe::aDf::aDg::aDh::Xr::Xt::Xu::Xv::aDi::aDj::aDk::aDl::aDm::aDn::aDo::aDp::aDq::aDr::aDs::aDt::aDu::aDv::aDw::Pf::[]).toArray,[]⟩ wz:=by
 obtain⟨j0,hj,hy0,Qo,hy2⟩:=info_parts Tryz.aG2;have aU:=fun W (hW:Below wz.heap.size wz W)=>Gh (.slice la n lc) its fo W (by rw [Bp.out];exact TH.below hW) (by rw [Bp.out];omega)
 have n1:(0:Int)<=(k:Int):=by omega
 have n2:(k:Int)<(m:Int):=by omega
 have hlz:=bU sV;have rz2:=fun i=>aA sV i
 have rr2:=fun i=>aA JE i
 have hwk:IntKind.i64.wrap (k:Int)=(k:Int):=Go.wrap_small _ (by omega) (by omega)
 conv=>arg 2;whnf
 refine wp_region_noPanic ?_;refine kR (fun W=>W.cell? ⟨zb,1,none⟩=some (.slice va ps.length vc)∧W.cell? ⟨b,off+k*8+5,none⟩=some (.string fo)∧W.cell? ⟨rb,1,none⟩=some (.int .i64 ty)∧W.cell? ⟨rb,3,none⟩=some (.int .i64 tt)) 17 ⟨rz2 1,yN,rr2 1,rr2 3⟩ fun aO=>?_;refine kB 0 rfl ?_;refine kB 1 rfl ?_;refine kB 2 rfl ?_;refine kB 3 rfl ?_;refine kB 4 rfl ?_;refine kB 5 rfl ?_;refine kB 6 rfl ?_;refine kB 7 rfl ?_;refine kB 9 rfl ?_;refine kB 10 rfl ?_;refine kB 11 rfl ?_;refine kB 12 rfl ?_;refine k1 8 rfl fun K hK=>?_
 go_simp;refine(aU _ (aK _ _).drew).mono ?_;rintro e wv ⟨rfl,hwv⟩;obtain rfl:=hwv;go_wp2_with fail
 refine hK.out _ _ (by assumption) fun _=>?_;clear hK K aU;generalize nW its fo=OW at*;refine kB 13 rfl ?_;have TI:∀ o:Obj,Below wz.heap.size wz (wz.drew.alloc o):=fun o=>(aK _ _).drew.alloc (aN _) _
 refine k1 14 rfl fun K hK=>?_
 go_simp;refine hK.out _ _ ⟨(aA (aB sV (TI _)) 1),((TI _).cell (eB wz _ yN)).trans yN,(aA (aB JE (TI _)) 1),(aA (aB JE (TI _)) 3)⟩ fun _=>?_;clear hK K;refine k1 15 rfl fun K hK=>?_
 refine wJ rfl (.tmp 151) (.tmp 164) 23 rfl (zb+1) 60 j0 _ 4 56 Tryz.underlying23 hj hy0 Qo hy2 rfl (by decide) _ _ _ (by rfl) (own_below ZM.outer (TI _)) ⟨wz.heap.size,0,none⟩ 1 1 [.string OW,.int .i64 ty,.int .i64 tt,.slice none 0 0] (by rfl) rfl (dU _ _ _) (by intro u hu;simp at hu;rcases hu with rfl|rfl|rfl|rfl<;>rfl) (by unfold maxLen;omega) (by omega) (by simp;omega) ?_;intro vv wa rF iF oP oQ;have hZ3:=((ZM.below (TI _)).snoc (s:=⟨OW,ty,tt,[]⟩) (u:=.slice none 0 0) (World.ownsRow_nil _ _ _ _) (by intro p hp g hg;simp [Value.ownBlock]) rF iF);have oo:=own_below ZM.outer (TI (.cells #[.string OW,.int .i64 ty,.int .i64 tt,.slice none 0 0] 60));have yP:=aP (aB sV (TI _)) iF (MX oo (aB sV (TI _)) (by decide));have kr3:=aP (aB JE (TI _)) iF (MX oo (aB JE (TI _)) (by decide));have DN:Below (zb+1) wz wa:=((TI _).mono (by omega)).grown iF (by simp;omega) (fun g hg=>(ZM.outer.lt g hg).1);have aTy:=(DN.cell (p:=⟨b,off+k*8+5,none⟩) (by show b<zb+1;omega)).trans yN;obtain⟨xa,xc,rfl⟩:=aT rF;have r3:=fun i=>aA yP i
 have f3:=fun i=>aG yP i
 refine hK.out _ _ ⟨(aA yP 1),aTy,(aA kr3 1),(aA kr3 3)⟩ fun _=>?_;clear hK K;refine kB 16 rfl ?_;have ZN:=aI yP 1 (.slice xa (ps.length+1) xc);have kr4:=aW (v:=.slice xa (ps.length+1) xc) (i:=1) kr3 hrz;have HF:=Nm.aF (aV ZN (aV kr4 (aV (hZ3.far (g:=zb) (i:=1) (y:=.slice xa (ps.length+1) xc) (by omega)) ((DN.mono (Nat.le_succ _)).setCell (p:=⟨zb,1,none⟩) (aN _) (.slice xa (ps.length+1) xc)))));refine jN (by kernel_rfl) rfl (by kernel_rfl) fun K hK=>?_;go_simp;refine hK.out _ _ (NoPanic.normal ?_);clear hK K oQ oP iF rF kr3 yP ZN kr4 hZ3 DN;refine Pg _ _ _ _ _ _ _ _ _ _ _ _ _ _ _ _ _ _ ?_;exact⟨_,HF.out.1,HF.out.2.1,HF.out.2.2.1,HF.out.2.2.2⟩
theorem aEb(its S:List It)(aM:ByteArray)(la ua:Option Addr)(n m lc uc:Nat)(Q0:Exit->Act->World->Prop)(w5 w6:World)(aA8:m<=500)(aHs:n<=500)(HSL:Hid (S.length=m))(Bp:Hid (its.length=n))
 (HC5:Hid (bS w5 (.slice la n lc) n 8 (fD its)∧bS w5 (.slice ua m uc) m 8 (fD S))) (kz6:bG w6 w5.heap.size #[.string aM,.slice none 0 0] 25) (b6:Below w5.heap.size w5 w6)
 (s0 s1 s2 s3 s4 s5 s6 s8 s9 s10 s11 s12 s14 s17 s18 s19 s20 s21 s22 s23 s24 s25 s26 s27 s28 s29 s30 s31 s32 s33 s34 s35 s36 s37 s38 s39 s40 s41 s42 s43 s44 s45 s46 s47 s48 s49 s50 s51 s52 s53 s54 s55 s56 s57 s58 s59 s60 s61 s62 s63 s64 s65 s66 s67 s68 s69 s70 s71 s72 s73 s74 s75 s76 s77 s78 s79 s80 s81 s82 s83 s84 s85 s86 s87 s88 s89 s90 s91 s92 s93 s94 s95 s96 s97 s98 s99 Oo Oq Ot Ou Ov Ow Ox Oy Pb Pd Pe Vv Vw Vx Vy We Wh Wi Wj Wl Wm Wn Wo Wp Wq Ws Wt Wu Wv Ww Wx Wy Wz Xa Xb Xc Xd Xe Xf Xg Xh Xi Xj Xk Xl Xm Xn Xo Xp Xq aC1 aC2 aC3 aC4 aC5 aC6 aC7 aC8 aC9 aDa aDb aDc aDd aDe aDf aDg aDh Xr Xt Xu Xv aDi aDj aDk aDl aDm aDn aDo aDp aDq aDr aDs aDt aDu aDv aDw Pf:Value)
 (Pg:∀ (u16 u17 u18 aQf aQg aQh aQi aQj aQk aQl aQm aQn aQo aQp aQq aQr aQs aQt aQu aQv aQw aQx aQy aQz aQ0 aQ1 aQ2 aQ3 aQ4 aQ5 aQ6 aQ7 aQ8 aQ9 aRa aRb aRc aRd aRe aRf aRg aRh Yp Yq Yr Yt Yu Yv Yw Yx Yy Yz Za Zc Zd Ze Zf Zg Zh aRi aRj aRk aRl Pi Pj Pk Pm Pn Po Pp Pq Ps Pt Pv Pw Px Py Qa:Value) (w':World),(∃ (vs:Value) (ps:List Zp),bG w' w5.heap.size #[.string aM,vs] 25∧dH w' (w5.heap.size+1) vs ps∧ps.map (·.1)=kW its S S.length∧Below w5.heap.size w5 w')->Q0 (.exit 4) ⟨(s0::s1::s2::s3::s4::s5::s6::.slice la n lc::s8::s9::s10::s11::s12::.slice ua m uc::s14::.pointer (some ⟨w5.heap.size,0,none⟩)::u16::u17::u18::s19::s20::s21::s22::s23::s24::s25::s26::s27::s28::s29::s30::s31::s32::s33::s34::s35::s36::s37::s38::s39::s40::s41::s42::s43::s44::s45::s46::s47::s48::s49::s50::s51::s52::s53::s54::s55::s56::s57::s58::s59::s60::s61::s62::s63::s64::s65::s66::s67::s68::s69::s70::s71::s72::s73::s74::s75::s76::s77::s78::s79::s80::s81::s82::s83::s84::s85::s86::s87::s88::s89::s90::s91::s92::s93::s94::s95::s96::s97::s98::s99::Oo::Oq::Ot::Ou::Ov::Ow::Ox::Oy::Pb::Pd::Pe::aQf::aQg::aQh::aQi::aQj::aQk::aQl::aQm::aQn::aQo::aQp::aQq::aQr::aQs::aQt::aQu::aQv::aQw::aQx::aQy::aQz::aQ0::aQ1::aQ2::aQ3::aQ4::aQ5::aQ6::aQ7::aQ8::aQ9::aRa::aRb::aRc::aRd::aRe::aRf::aRg::aRh::Yp::Yq::Yr::Yt::Yu::Yv::Yw::Yx::Yy::Yz::Za::Zc::Zd::Ze::Zf::Zg::Zh::aRi::aRj::aRk::aRl::Pi::Pj::Pk::Pm::Pn::Po::Pp::Pq::Ps::Pt::Pv::Pw::Px::Py::Qa::Pf::[]).toArray,[]⟩ w'):
 Code.wp Tryz.prog (Code.loop aPm) Q0 ⟨(s0::s1::s2::s3::s4::s5::s6::.slice la n lc::s8::s9::s10::s11::s12::.slice ua m uc::s14::.pointer (some ⟨w5.heap.size,0,none⟩)::.int .i64 0::s17::s18::s19::s20::s21::s22::s23::s24::s25::s26::s27::s28::s29::s30::s31::s32::s33::s34::s35::s36::s37::s38::s39::s40::s41::s42::s43::s44::s45::s46::s47::s48::s49::s50::s51::s52::s53::s54::s55::s56::s57::s58::s59::s60::s61::s62::s63::s64::s65::s66::s67::s68::s69::s70::s71::s72::s73::s74::s75::s76::s77::s78::s79::s80::s81::s82::s83::s84::s85::s86::s87::s88::s89::s90::s91::s92::s93::s94::s95::s96::s97::s98::s99::Oo::Oq::Ot::Ou::Ov::Ow::Ox::Oy::Pb::Pd::Pe::Vv::Vw::Vx::Vy::We::Wh::Wi::Wj::Wl::Wm::Wn::Wo::Wp::Wq::Ws::Wt::Wu::Wv::Ww::Wx::Wy::Wz::Xa::Xb::Xc::Xd::Xe::Xf::Xg::Xh::Xi::Xj::Xk::Xl::Xm::Xn::Xo::Xp::Xq::aC1::aC2::aC3::aC4::aC5::aC6::aC7::aC8::aC9::aDa::aDb::aDc::aDd::aDe::aDf::aDg::aDh::Xr::Xt::Xu::Xv::aDi::aDj::aDk::aDl::aDm::aDn::aDo::aDp::aDq::aDr::aDs::aDt::aDu::aDv::aDw::Pf::[]).toArray,[]⟩ w6:=by
 conv=>arg 2;arg 1;whnf
 go_loopw [16] (fun vi wr=>∃ (k:Nat) (vs:Value) (ps:List Zp),k<=m∧vi=.int .i64 k∧bG wr w5.heap.size #[.string aM,vs] 25∧dH wr (w5.heap.size+1) vs ps∧Hid (ps.map (·.1)=kW its S k)∧Below w5.heap.size w5 wr) (fun vi _=>m-(intOf vi).toNat)
 case atStart=>exact⟨0,_,[],dO _,rfl,kz6,dH.nil _ _,rfl,b6⟩
 clear kz6 b6;obtain⟨k,vs,ps,hk,rfl,kz,hZ,HG,aJ⟩:=hrel;obtain⟨va,vc,hvs⟩:=aT hZ.outer;subst hvs
 by_cases bV:k<m
 ·clear Pg;obtain⟨x,hx⟩:∃ x,S[k]? =some x:=⟨_,bY (by have:=HSL.out;omega)⟩;have HM:=Nm.aF aA8
  have yB:∀ W,Below w5.heap.size w5 W->∃ b off,ua=some ⟨b,off,none⟩∧∀ (i:Nat) (y:Value),(fD S)[i]? =some y->W.cell? ⟨b,off+i,none⟩=some y:=by
   intro W hW;obtain⟨_,a',c',e',_,_,hc⟩:=HC5.out.2.below hW;simp only [iG] at e';obtain⟨rfl,_,rfl⟩:=e';exact hc (by omega)
  obtain⟨b,off,rfl,aL⟩:=yB wr aJ;obtain⟨c0,c1,c2,c3,c4,c5,c6,c7⟩:=fI aL hx;have n1:(0:Int)<=(k:Int):=by omega
  have n2:(k:Int)<(m:Int):=by omega
  have X:=Nm.aF (aV (aH wr #[.string x.r.own,.int .i64 x.r.ty,.int .i64 x.r.cl,.int .i64 x.r.tt,.string x.r.da] 29) ((aK wr.heap.size wr).alloc (aN _) (.cells #[.string x.r.own,.int .i64 x.r.ty,.int .i64 x.r.cl,.int .i64 x.r.tt,.string x.r.da] 29)))
  have RI:ps.length<=k:=by
   have h1:=congrArg List.length HG.out;have h2:=(MW (l:=its) (jQ:=S) k (by have:=HSL.out;omega)).1;simp at h1;omega
  clear c6 c7;go_wp2;refine XG (Pr:=fun W=>bG W wr.heap.size #[.string x.r.own,.int .i64 x.r.ty,.int .i64 x.r.cl,.int .i64 x.r.tt,.string x.r.da] 29∧Below wr.heap.size wr W) (G:=fun W=>Code.wp _ _ _ _ W) X.out ?_;rintro wq ⟨kr,bq⟩;have kz0:=kz;have uC:=aB kz bq;have hZ1:=hZ.below bq;have fF:Below w5.heap.size w5 wq:=Nm.aC aJ bq;clear X aL c0 c1 c2 c3 c4 c5 kz hZ aJ bq;have hrz:wr.heap.size≠w5.heap.size:=by have:=bU kz0;omega
  clear kz0;generalize wr.heap.size=rb at*;obtain⟨b',off',e',aL⟩:=yB wq fF;cases e'
  obtain⟨c0,c1,c2,c3,c4,c5,c6,c7⟩:=fI aL hx;have rr:=fun i=>aA kr i
  clear c0 c2 c3 c4 c6 c7
  by_cases Su:k=0
  ·have g0:((k:Int)==0)=true:=by simp [Su]
   have HNW:Hid (gL S k x=true):=by show _=_;rw [Su];rfl
   clear aL c1 c5 Su;go_quiet (fail)
   generalize Bh:World.drewN wq _=wz;have KY:Below wq.heap.size wq wz:=by rw [<- Bh];exact Go.below_drewN (aK _ _) _
   have sV:=aB uC KY;have ZM:=hZ1.below KY;have JE:=aB kr KY;have iE:=Nm.aC fF KY
   have HG3:Hid (∀ u':Value,(ps++[(({(⟨nW its x.fo,x.r.ty,x.r.tt,[]⟩:Sz) with da:=[]++[x.r.da]}:Sz),u')]).map (·.1)=kW its S (k+1)):=by
    intro u';rw [nX hx HNW.out,<- HG.out];simp
   obtain⟨b',off',e',aL⟩:=yB wz iE;cases e'
   obtain⟨_,_,_,_,_,yN,_,_⟩:=fI aL hx
   have vY:b<w5.heap.size:=by
    obtain⟨b',off',e',aL⟩:=yB w5 (aK _ _);cases e'
    obtain⟨_,_,_,_,_,yN,_,_⟩:=fI aL hx;exact eB w5 _ yN
   have TH:=HC5.out.1.below iE;have pG:ps.length<=500:=by have:=HM.out;omega
   clear Bh KY uC hZ1 kr fF HNW yB hx aL HG;go_wp2;refine YB its aM x.fo x.r.ty x.r.tt w5.heap.size rb b off k m n lc uc la va vc ps (.string x.r.own) (.int .i64 x.r.cl) (.string x.r.da) pG aHs Bp bV aA8 vY _ wz sV JE hrz ZM TH yN _ _ _ _ _ _ _ _ _ _ _ _ _ _ _ _ _ _ _ _ _ _ _ _ _ _ _ _ _ _ _ _ _ _ _ _ _ _ _ _ _ _ _ _ _ _ _ _ _ _ _ _ _ _ _ _ _ _ _ _ _ _ _ _ _ _ _ _ _ _ _ _ _ _ _ _ _ _ _ _ _ _ _ _ _ _ _ _ _ _ _ _ _ _ _ _ _ _ _ _ _ _ _ _ _ _ _ _ _ _ _ _ _ _ _ _ _ _ _ _ _ _ _ _ _ _ _ _ _ _ _ _ _ _ _ _ _ _ _ _ _ _ _ _ _ _ _ _ _ _ _ _ _ _ _ _ _ _ _ _ _ _ _ _ _ _ _ _ _ _ _ _ _ _ _ _ _ _ _ _ _ _ ?_;rintro Yp Yq Yr Yt Yu Yv Yw Yx Yy Yz Za Zc Zd Ze Zf Zg Zh w7 ⟨vs2,ZO,kr7,hZ7,Qw⟩;have Qw:=iE.trans Qw;clear sV JE ZM TH yN iE
   obtain⟨g7,gc7,rfl⟩:∃ g gc,vs2=.slice (some ⟨g,0,none⟩) (ps.length+1) gc:=by
    rcases hZ7.outer.2 with⟨_,h0⟩|⟨g,gc,cur,e,_⟩
    ·simp at h0
    exact⟨g,gc,by rw [e];simp⟩
   have r7:=fun i=>aA ZO i
   go_wp2;refine IA aM x.r.da w5.heap.size rb _ ps ⟨nW its x.fo,x.r.ty,x.r.tt,[]⟩ none 0 (.string x.r.own) (.int .i64 x.r.ty) (.int .i64 x.r.cl) (.int .i64 x.r.tt) pG (by simp) _ w7 ZO kr7 hZ7 _ _ _ _ _ _ _ _ _ _ _ _ _ _ _ _ _ _ _ _ _ _ _ _ _ _ _ _ _ _ _ _ _ _ _ _ _ _ _ _ _ _ _ _ _ _ _ _ _ _ _ _ _ _ _ _ _ _ _ _ _ _ _ _ _ _ _ _ _ _ _ _ _ _ _ _ _ _ _ _ _ _ _ _ _ _ _ _ _ _ _ _ _ _ _ _ _ _ _ _ _ _ _ _ _ _ _ _ _ _ _ _ _ _ _ _ _ _ _ _ _ _ _ _ _ _ _ _ _ _ _ _ _ _ _ _ _ _ _ _ _ _ _ _ _ _ _ _ _ _ _ _ _ _ _ _ _ _ _ _ _ _ _ _ _ _ _ _ _ _ _ _ _ _ _ _ _ _ _ _ _ _ _ _ ?_;rintro Pi Pj Pk Pm Pn Po Pp Pq Ps Pt Pv Pw Px Py Qa w8 ⟨u8,Zi,hZ8,hb8⟩;have HF:=Nm.aF (aV Zi (aV hZ8 (Qw.trans (hb8.mono (Nat.le_succ _)))));clear Zi hZ8 hb8 Qw;go_wp2;go_roundw
   case rel=>exact⟨k+1,_,_,by omega,by go_num,HF.out.1,HF.out.2.1,HG3.out _,HF.out.2.2⟩
   simp [intOf];omega
  obtain⟨q,hm⟩:∃ q,k=q+1:=⟨k-1,by omega⟩;obtain⟨y,hy⟩:∃ y,S[q]? =some y:=⟨_,bY (by have:=HSL.out;omega)⟩;obtain⟨d0,d1,d2,d3,d4,d5,d6,d7⟩:=fI aL hy;have g0:((k:Int)==0)=false:=by simp;omega
  have g1:(k:Int)-1=(q:Int):=by omega
  have g2:(0:Int)<=(q:Int):=by omega
  have hwm:IntKind.i64.wrap (q:Int)=(q:Int):=Go.wrap_small _ (by omega) (by have:=HM.out;omega);have g3:(q:Int)<(m:Int):=by omega
  have HNS:Hid (gL S k x=(!(y.fo.toList==x.fo.toList)||(y.r.ty != x.r.ty))):=by
   show _=_
   rw [hm,gL,hy,ba_eq]
   by_cases h:y.r.ty=x.r.ty<;>simp [h]
  clear aL d0 d2 d3 d4 d6 d7 hy hm;cases hE:(y.fo.toList==x.fo.toList)
  ·have nE:(y.fo.toList != x.fo.toList)=true:=by rw [bne,hE];rfl
   have HNW:Hid (gL S k x=true):=by show _=_;rw [HNS.out,hE];rfl
   go_quiet (fail)
   generalize Bh:World.drewN wq _=wz;have KY:Below wq.heap.size wq wz:=by rw [<- Bh];exact Go.below_drewN (aK _ _) _
   have sV:=aB uC KY;have ZM:=hZ1.below KY;have JE:=aB kr KY;have iE:=Nm.aC fF KY
   have HG3:Hid (∀ u':Value,(ps++[(({(⟨nW its x.fo,x.r.ty,x.r.tt,[]⟩:Sz) with da:=[]++[x.r.da]}:Sz),u')]).map (·.1)=kW its S (k+1)):=by
    intro u';rw [nX hx HNW.out,<- HG.out];simp
   obtain⟨b',off',e',aL⟩:=yB wz iE;cases e'
   obtain⟨_,_,_,_,_,yN,_,_⟩:=fI aL hx
   have vY:b<w5.heap.size:=by
    obtain⟨b',off',e',aL⟩:=yB w5 (aK _ _);cases e'
    obtain⟨_,_,_,_,_,yN,_,_⟩:=fI aL hx;exact eB w5 _ yN
   have TH:=HC5.out.1.below iE;have pG:ps.length<=500:=by have:=HM.out;omega
   clear Bh KY uC hZ1 kr fF HNW yB hx aL HG;go_wp2;refine YB its aM x.fo x.r.ty x.r.tt w5.heap.size rb b off k m n lc uc la va vc ps (.string x.r.own) (.int .i64 x.r.cl) (.string x.r.da) pG aHs Bp bV aA8 vY _ wz sV JE hrz ZM TH yN _ _ _ _ _ _ _ _ _ _ _ _ _ _ _ _ _ _ _ _ _ _ _ _ _ _ _ _ _ _ _ _ _ _ _ _ _ _ _ _ _ _ _ _ _ _ _ _ _ _ _ _ _ _ _ _ _ _ _ _ _ _ _ _ _ _ _ _ _ _ _ _ _ _ _ _ _ _ _ _ _ _ _ _ _ _ _ _ _ _ _ _ _ _ _ _ _ _ _ _ _ _ _ _ _ _ _ _ _ _ _ _ _ _ _ _ _ _ _ _ _ _ _ _ _ _ _ _ _ _ _ _ _ _ _ _ _ _ _ _ _ _ _ _ _ _ _ _ _ _ _ _ _ _ _ _ _ _ _ _ _ _ _ _ _ _ _ _ _ _ _ _ _ _ _ _ _ _ _ _ _ _ ?_;rintro Yp Yq Yr Yt Yu Yv Yw Yx Yy Yz Za Zc Zd Ze Zf Zg Zh w7 ⟨vs2,ZO,kr7,hZ7,Qw⟩;have Qw:=iE.trans Qw;clear sV JE ZM TH yN iE
   obtain⟨g7,gc7,rfl⟩:∃ g gc,vs2=.slice (some ⟨g,0,none⟩) (ps.length+1) gc:=by
    rcases hZ7.outer.2 with⟨_,h0⟩|⟨g,gc,cur,e,_⟩
    ·simp at h0
    exact⟨g,gc,by rw [e];simp⟩
   have r7:=fun i=>aA ZO i
   go_wp2;refine IA aM x.r.da w5.heap.size rb _ ps ⟨nW its x.fo,x.r.ty,x.r.tt,[]⟩ none 0 (.string x.r.own) (.int .i64 x.r.ty) (.int .i64 x.r.cl) (.int .i64 x.r.tt) pG (by simp) _ w7 ZO kr7 hZ7 _ _ _ _ _ _ _ _ _ _ _ _ _ _ _ _ _ _ _ _ _ _ _ _ _ _ _ _ _ _ _ _ _ _ _ _ _ _ _ _ _ _ _ _ _ _ _ _ _ _ _ _ _ _ _ _ _ _ _ _ _ _ _ _ _ _ _ _ _ _ _ _ _ _ _ _ _ _ _ _ _ _ _ _ _ _ _ _ _ _ _ _ _ _ _ _ _ _ _ _ _ _ _ _ _ _ _ _ _ _ _ _ _ _ _ _ _ _ _ _ _ _ _ _ _ _ _ _ _ _ _ _ _ _ _ _ _ _ _ _ _ _ _ _ _ _ _ _ _ _ _ _ _ _ _ _ _ _ _ _ _ _ _ _ _ _ _ _ _ _ _ _ _ _ _ _ _ _ _ _ _ _ _ _ ?_;rintro Pi Pj Pk Pm Pn Po Pp Pq Ps Pt Pv Pw Px Py Qa w8 ⟨u8,Zi,hZ8,hb8⟩;have HF:=Nm.aF (aV Zi (aV hZ8 (Qw.trans (hb8.mono (Nat.le_succ _)))));clear Zi hZ8 hb8 Qw;go_wp2;go_roundw
   case rel=>exact⟨k+1,_,_,by omega,by go_num,HF.out.1,HF.out.2.1,HG3.out _,HF.out.2.2⟩
   simp [intOf];omega
  have nE:(y.fo.toList != x.fo.toList)=false:=by rw [bne,hE];rfl
  cases hT:(y.r.ty != x.r.ty) with
  |true=>
   have HNW:Hid (gL S k x=true):=by show _=_;rw [HNS.out,hE,hT];rfl
   go_quiet (fail)
   generalize Bh:World.drewN wq _=wz;have KY:Below wq.heap.size wq wz:=by rw [<- Bh];exact Go.below_drewN (aK _ _) _
   have sV:=aB uC KY;have ZM:=hZ1.below KY;have JE:=aB kr KY;have iE:=Nm.aC fF KY
   have HG3:Hid (∀ u':Value,(ps++[(({(⟨nW its x.fo,x.r.ty,x.r.tt,[]⟩:Sz) with da:=[]++[x.r.da]}:Sz),u')]).map (·.1)=kW its S (k+1)):=by
    intro u';rw [nX hx HNW.out,<- HG.out];simp
   obtain⟨b',off',e',aL⟩:=yB wz iE;cases e'
   obtain⟨_,_,_,_,_,yN,_,_⟩:=fI aL hx
   have vY:b<w5.heap.size:=by
    obtain⟨b',off',e',aL⟩:=yB w5 (aK _ _);cases e'
    obtain⟨_,_,_,_,_,yN,_,_⟩:=fI aL hx;exact eB w5 _ yN
   have TH:=HC5.out.1.below iE;have pG:ps.length<=500:=by have:=HM.out;omega
   clear Bh KY uC hZ1 kr fF HNW yB hx aL HG;go_wp2;refine YB its aM x.fo x.r.ty x.r.tt w5.heap.size rb b off k m n lc uc la va vc ps (.string x.r.own) (.int .i64 x.r.cl) (.string x.r.da) pG aHs Bp bV aA8 vY _ wz sV JE hrz ZM TH yN _ _ _ _ _ _ _ _ _ _ _ _ _ _ _ _ _ _ _ _ _ _ _ _ _ _ _ _ _ _ _ _ _ _ _ _ _ _ _ _ _ _ _ _ _ _ _ _ _ _ _ _ _ _ _ _ _ _ _ _ _ _ _ _ _ _ _ _ _ _ _ _ _ _ _ _ _ _ _ _ _ _ _ _ _ _ _ _ _ _ _ _ _ _ _ _ _ _ _ _ _ _ _ _ _ _ _ _ _ _ _ _ _ _ _ _ _ _ _ _ _ _ _ _ _ _ _ _ _ _ _ _ _ _ _ _ _ _ _ _ _ _ _ _ _ _ _ _ _ _ _ _ _ _ _ _ _ _ _ _ _ _ _ _ _ _ _ _ _ _ _ _ _ _ _ _ _ _ _ _ _ _ ?_;rintro Yp Yq Yr Yt Yu Yv Yw Yx Yy Yz Za Zc Zd Ze Zf Zg Zh w7 ⟨vs2,ZO,kr7,hZ7,Qw⟩;have Qw:=iE.trans Qw;clear sV JE ZM TH yN iE
   obtain⟨g7,gc7,rfl⟩:∃ g gc,vs2=.slice (some ⟨g,0,none⟩) (ps.length+1) gc:=by
    rcases hZ7.outer.2 with⟨_,h0⟩|⟨g,gc,cur,e,_⟩
    ·simp at h0
    exact⟨g,gc,by rw [e];simp⟩
   have r7:=fun i=>aA ZO i
   go_wp2;refine IA aM x.r.da w5.heap.size rb _ ps ⟨nW its x.fo,x.r.ty,x.r.tt,[]⟩ none 0 (.string x.r.own) (.int .i64 x.r.ty) (.int .i64 x.r.cl) (.int .i64 x.r.tt) pG (by simp) _ w7 ZO kr7 hZ7 _ _ _ _ _ _ _ _ _ _ _ _ _ _ _ _ _ _ _ _ _ _ _ _ _ _ _ _ _ _ _ _ _ _ _ _ _ _ _ _ _ _ _ _ _ _ _ _ _ _ _ _ _ _ _ _ _ _ _ _ _ _ _ _ _ _ _ _ _ _ _ _ _ _ _ _ _ _ _ _ _ _ _ _ _ _ _ _ _ _ _ _ _ _ _ _ _ _ _ _ _ _ _ _ _ _ _ _ _ _ _ _ _ _ _ _ _ _ _ _ _ _ _ _ _ _ _ _ _ _ _ _ _ _ _ _ _ _ _ _ _ _ _ _ _ _ _ _ _ _ _ _ _ _ _ _ _ _ _ _ _ _ _ _ _ _ _ _ _ _ _ _ _ _ _ _ _ _ _ _ _ _ _ _ ?_;rintro Pi Pj Pk Pm Pn Po Pp Pq Ps Pt Pv Pw Px Py Qa w8 ⟨u8,Zi,hZ8,hb8⟩;have HF:=Nm.aF (aV Zi (aV hZ8 (Qw.trans (hb8.mono (Nat.le_succ _)))));clear Zi hZ8 hb8 Qw;go_wp2;go_roundw
   case rel=>exact⟨k+1,_,_,by omega,by go_num,HF.out.1,HF.out.2.1,HG3.out _,HF.out.2.2⟩
   simp [intOf];omega
  |false=>
   have HNW:Hid (gL S k x=false):=by show _=_;rw [HNS.out,hE,hT];rfl
   go_quiet (fail)
   generalize Bh:World.drewN wq _=wz;have KY:Below wq.heap.size wq wz:=by rw [<- Bh];exact Go.below_drewN (aK _ _) _
   have sV:=aB uC KY;have ZM:=hZ1.below KY;have JE:=aB kr KY;have iE:=Nm.aC fF KY;obtain⟨qs,s,Qx⟩:=vZ (l:=its) (jQ:=S) k (by omega) (by have:=HSL.out;omega);have HD:Hid (s.da.length<=k):=(MW (l:=its) (jQ:=S) k (by have:=HSL.out;omega)).2 s (by rw [Qx];simp)
   obtain⟨DV,u,rfl,hq0⟩:∃ DV u,ps=DV++[(s,u)]∧DV.map (·.1)=qs:=by
    have h1:=HG.out;rw [Qx] at h1
    rcases List.eq_nil_or_concat ps with h|⟨DV,p,h⟩
    ·subst h;simp at h1
    subst h;simp only [List.concat_eq_append,List.map_append,List.map_cons,List.map_nil] at h1;obtain⟨h2,h3⟩:=List.append_inj' h1 rfl;simp at h3;exact⟨DV,p.2,by simp [<- h3],h2⟩
   have HG3:Hid (∀ u':Value,(DV++[(({s with da:=s.da++[x.r.da]}:Sz),u')]).map (·.1)=kW its S (k+1)):=by
    intro u';rw [sH hx HNW.out Qx,<- hq0];simp
   obtain⟨ux,uc,hu⟩:=aT (ZM.inner DV.length (s,u) (by simp));have hu2:u=.slice ux s.da.length uc:=hu;subst hu2;clear hu;have HPS:Hid (DV.length+1<=k):=by show _<=_;simpa using RI
   clear RI;generalize FI:Value.slice va (DV++[(s,Value.slice ux s.da.length uc)]).length vc=vs2 at*;clear Bh KY uC hZ1 kr fF HNW HNS Qx hq0 rr c1 c5 d1 d5 nE hT hE g0 g1 HG hx Su
   obtain⟨g7,gc7,rfl⟩:∃ g gc,vs2=.slice (some ⟨g,0,none⟩) (DV.length+1) gc:=by
    rcases ZM.outer.2 with⟨_,h0⟩|⟨g,gc,cur,e,_⟩
    ·simp at h0
    exact⟨g,gc,by rw [e];simp⟩
   have r7:=fun i=>aA sV i
   have aNe:DV.length<=500:=by have:=HM.out;have:=HPS.out;omega
   go_wp2;refine IA aM x.r.da w5.heap.size rb _ DV s ux uc (.string x.r.own) (.int .i64 x.r.ty) (.int .i64 x.r.cl) (.int .i64 x.r.tt) aNe (by have:=HD.out;have:=HM.out;omega) _ wz sV JE ZM _ _ _ _ _ _ _ _ _ _ _ _ _ _ _ _ _ _ _ _ _ _ _ _ _ _ _ _ _ _ _ _ _ _ _ _ _ _ _ _ _ _ _ _ _ _ _ _ _ _ _ _ _ _ _ _ _ _ _ _ _ _ _ _ _ _ _ _ _ _ _ _ _ _ _ _ _ _ _ _ _ _ _ _ _ _ _ _ _ _ _ _ _ _ _ _ _ _ _ _ _ _ _ _ _ _ _ _ _ _ _ _ _ _ _ _ _ _ _ _ _ _ _ _ _ _ _ _ _ _ _ _ _ _ _ _ _ _ _ _ _ _ _ _ _ _ _ _ _ _ _ _ _ _ _ _ _ _ _ _ _ _ _ _ _ _ _ _ _ _ _ _ _ _ _ _ _ _ _ _ _ _ _ _ ?_;have Qw:=iE;rintro Pi Pj Pk Pm Pn Po Pp Pq Ps Pt Pv Pw Px Py Qa w8 ⟨u8,Zi,hZ8,hb8⟩;have HF:=Nm.aF (aV Zi (aV hZ8 (Qw.trans (hb8.mono (Nat.le_succ _)))));clear Zi hZ8 hb8 Qw;go_wp2;go_roundw
   case rel=>exact⟨k+1,_,_,by omega,by go_num,HF.out.1,HF.out.2.1,HG3.out _,HF.out.2.2⟩
   simp [intOf];omega
 obtain rfl:k=m:=by omega
 have n4:(k:Int)<=(k:Int):=by omega
 go_wp2;exact⟨_,ps,kz,hZ,by rw [HSL.out];exact HG.out,aJ⟩
