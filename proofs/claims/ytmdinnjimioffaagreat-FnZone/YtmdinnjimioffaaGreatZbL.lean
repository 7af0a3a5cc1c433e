import Derived.Test.YtmdinnjimioffaaGreatJZbLb
namespace Go.Proofs.YtmdinnjimioffaaGreat
open Go.RowKit
set_option linter.unusedVariables false
set_option maxRecDepth 1000000 in
set_option maxHeartbeats 16000000 in
theorem zone_sets(its S:List It)(apex:ByteArray)(la ua:Option Addr)(n m lc uc:Nat)(Q0:Exit->Act->World->Prop)(w5 w6:World)(hm500:m<=500)(hn500:n<=500)(HSL:Hid (S.length=m))(HITL:Hid (its.length=n))
 (HC5:Hid (CRow w5 (.slice la n lc) n 8 (itCs its)∧CRow w5 (.slice ua m uc) m 8 (itCs S))) (kz6:Blk w6 w5.heap.size #[.string apex,.slice none 0 0] 28) (b6:Below w5.heap.size w5 w6)
 (s0 s1 s2 s3 s4 s5 s6 s8 s9 s10 s11 s12 s14 s17 s18 s19 s20 s21 s22 s23 s24 s25 s26 s27 s28 s29 s30 s31 s32 s33 s34 s35 s36 s37 s38 s39 s40 s41 s42 s43 s44 s45 s46 s47 s48 s49 s50 s51 s52 s53 s54 s55 s56 s57 s58 s59 s60 s61 s62 s63 s64 s65 s66 s67 s68 s69 s70 s71 s72 s73 s74 s75 s76 s77 s78 s79 s80 s81 s82 s83 s84 s85 s86 s87 s88 s89 s90 s91 s92 s93 s94 s95 s96 s97 s98 s99 s100 s101 s102 s103 s104 s105 s106 s107 s108 s109 s110 s111 s112 s113 s114 s115 s116 s117 s118 s119 s120 s121 s122 s123 s124 s125 s126 s127 s128 s129 s130 s131 s132 s133 s134 s135 s136 s137 s138 s139 s140 s141 s142 s143 s144 s145 s146 s147 s148 s149 s150 s151 s152 s153 s154 s155 s156 s157 s158 s159 s160 s161 s162 s163 s164 s165 s166 s167 s168 s169 s170 s171 s172 s173 s174 s175 s176 s177 s178 s179 s180 s181 s182 s183 s184 s185 s186:Value)
 (hexit:∀ (u16 u17 u18 u111 u112 u113 u114 u115 u116 u117 u118 u119 u120 u121 u122 u123 u124 u125 u126 u127 u128 u129 u130 u131 u132 u133 u134 u135 u136 u137 u138 u139 u140 u141 u142 u143 u144 u145 u146 u147 u148 u149 u150 u151 u152 u153 u154 u155 u156 u157 u158 u159 u160 u161 u162 u163 u164 u165 u166 u167 u168 u169 u170 u171 u172 u173 u174 u175 u176 u177 u178 u179 u180 u181 u182 u183 u184 u185:Value) (w':World),(∃ (vs:Value) (ps:List Zp),Blk w' w5.heap.size #[.string apex,vs] 28∧ZOwn w' (w5.heap.size+1) vs ps∧ps.map (·.1)=grpK its S S.length∧Below w5.heap.size w5 w')->Q0 (.exit 4) ⟨(s0::s1::s2::s3::s4::s5::s6::.slice la n lc::s8::s9::s10::s11::s12::.slice ua m uc::s14::.pointer (some ⟨w5.heap.size,0,none⟩)::u16::u17::u18::s19::s20::s21::s22::s23::s24::s25::s26::s27::s28::s29::s30::s31::s32::s33::s34::s35::s36::s37::s38::s39::s40::s41::s42::s43::s44::s45::s46::s47::s48::s49::s50::s51::s52::s53::s54::s55::s56::s57::s58::s59::s60::s61::s62::s63::s64::s65::s66::s67::s68::s69::s70::s71::s72::s73::s74::s75::s76::s77::s78::s79::s80::s81::s82::s83::s84::s85::s86::s87::s88::s89::s90::s91::s92::s93::s94::s95::s96::s97::s98::s99::s100::s101::s102::s103::s104::s105::s106::s107::s108::s109::s110::u111::u112::u113::u114::u115::u116::u117::u118::u119::u120::u121::u122::u123::u124::u125::u126::u127::u128::u129::u130::u131::u132::u133::u134::u135::u136::u137::u138::u139::u140::u141::u142::u143::u144::u145::u146::u147::u148::u149::u150::u151::u152::u153::u154::u155::u156::u157::u158::u159::u160::u161::u162::u163::u164::u165::u166::u167::u168::u169::u170::u171::u172::u173::u174::u175::u176::u177::u178::u179::u180::u181::u182::u183::u184::u185::s186::[]).toArray,[]⟩ w'):
 Code.wp Tryz.prog (Code.loop bzL3) Q0 ⟨(s0::s1::s2::s3::s4::s5::s6::.slice la n lc::s8::s9::s10::s11::s12::.slice ua m uc::s14::.pointer (some ⟨w5.heap.size,0,none⟩)::.int .i64 0::s17::s18::s19::s20::s21::s22::s23::s24::s25::s26::s27::s28::s29::s30::s31::s32::s33::s34::s35::s36::s37::s38::s39::s40::s41::s42::s43::s44::s45::s46::s47::s48::s49::s50::s51::s52::s53::s54::s55::s56::s57::s58::s59::s60::s61::s62::s63::s64::s65::s66::s67::s68::s69::s70::s71::s72::s73::s74::s75::s76::s77::s78::s79::s80::s81::s82::s83::s84::s85::s86::s87::s88::s89::s90::s91::s92::s93::s94::s95::s96::s97::s98::s99::s100::s101::s102::s103::s104::s105::s106::s107::s108::s109::s110::s111::s112::s113::s114::s115::s116::s117::s118::s119::s120::s121::s122::s123::s124::s125::s126::s127::s128::s129::s130::s131::s132::s133::s134::s135::s136::s137::s138::s139::s140::s141::s142::s143::s144::s145::s146::s147::s148::s149::s150::s151::s152::s153::s154::s155::s156::s157::s158::s159::s160::s161::s162::s163::s164::s165::s166::s167::s168::s169::s170::s171::s172::s173::s174::s175::s176::s177::s178::s179::s180::s181::s182::s183::s184::s185::s186::[]).toArray,[]⟩ w6:=by
 conv=>arg 2;arg 1;whnf
 go_loopw [16] (fun vi wr=>∃ (k:Nat) (vs:Value) (ps:List Zp),k<=m∧vi=.int .i64 k∧Blk wr w5.heap.size #[.string apex,vs] 28∧ZOwn wr (w5.heap.size+1) vs ps∧Hid (ps.map (·.1)=grpK its S k)∧Below w5.heap.size w5 wr) (fun vi _=>m-(intOf vi).toNat)
 case atStart=>exact⟨0,_,[],Nat.zero_le _,rfl,kz6,ZOwn.nil _ _,rfl,b6⟩
 case round=>
  clear kz6 b6;obtain⟨k,vs,ps,hk,rfl,kz,hZ,HG,hbel⟩:=hrel;obtain⟨va,vc,hvs⟩:=own_sl hZ.outer;subst hvs
  by_cases hlt:k<m
  ·clear hexit;obtain⟨x,hx⟩:∃ x,S[k]? =some x:=⟨_,List.getElem?_eq_getElem (by have:=HSL.out;omega)⟩;have HM:=Nm.hide hm500
   have hcx:∀ W,Below w5.heap.size w5 W->∃ b off,ua=some ⟨b,off,none⟩∧∀ (i:Nat) (y:Value),(itCs S)[i]? =some y->W.cell? ⟨b,off+i,none⟩=some y:=by
    intro W hW;obtain⟨_,a',c',e',_,_,hc⟩:=HC5.out.2.below hW;simp only [Value.slice.injEq] at e';obtain⟨rfl,_,rfl⟩:=e';exact hc (by omega)
   obtain⟨b,off,rfl,hcell⟩:=hcx wr hbel;obtain⟨c0,c1,c2,c3,c4,c5,c6,c7⟩:=it_cells hcell hx;have n1:(0:Int)<=(k:Int):=by omega
   have n2:(k:Int)<(m:Int):=by omega
   have X:=Nm.hide (And.intro (blk_new wr #[.string x.r.own,.int .i64 x.r.ty,.int .i64 x.r.cl,.int .i64 x.r.tt,.string x.r.da] 33) ((Below.refl wr.heap.size wr).alloc (Nat.le_refl _) (.cells #[.string x.r.own,.int .i64 x.r.ty,.int .i64 x.r.cl,.int .i64 x.r.tt,.string x.r.da] 33)))
   have hps:ps.length<=k:=by
    have h1:=congrArg List.length HG.out;have h2:=(grpK_len (l:=its) (srt:=S) k (by have:=HSL.out;omega)).1;simp at h1;omega
   clear c6 c7;go_wp2;refine gen_worldZ (Pr:=fun W=>Blk W wr.heap.size #[.string x.r.own,.int .i64 x.r.ty,.int .i64 x.r.cl,.int .i64 x.r.tt,.string x.r.da] 33∧Below wr.heap.size wr W) (G:=fun W=>Code.wp _ _ _ _ W) X.out ?_;rintro wq ⟨kr,bq⟩;have kz0:=kz;have kz1:=blk_below kz bq;have hZ1:=hZ.below bq;have hb1:Below w5.heap.size w5 wq:=Nm.below_two hbel bq;clear X hcell c0 c1 c2 c3 c4 c5 kz hZ hbel bq;have hrz:wr.heap.size≠w5.heap.size:=by have:=blk_lt kz0;omega
   clear kz0;generalize wr.heap.size=rb at*;obtain⟨b',off',e',hcell⟩:=hcx wq hb1;cases e'
   obtain⟨c0,c1,c2,c3,c4,c5,c6,c7⟩:=it_cells hcell hx;have rr:=fun i=>blk_cell kr i
   clear c0 c2 c3 c4 c6 c7
   by_cases hk0:k=0
   ·have g0:((k:Int)==0)=true:=by simp [hk0]
    have HNW:Hid (newSet S k x=true):=by show _=_;rw [hk0];rfl
    clear hcell c1 c5 hk0;go_quiet (fail)
    generalize hwE:World.drewN wq _=wz;have hbq:Below wq.heap.size wq wz:=by rw [<- hwE];exact Go.below_drewN (Below.refl _ _) _
    have kz2:=blk_below kz1 hbq;have hZ2:=hZ1.below hbq;have kr2:=blk_below kr hbq;have hb2:=Nm.below_two hb1 hbq
    have HG3:Hid (∀ u':Value,(ps++[(({(⟨ownI its x.fo,x.r.ty,x.r.tt,[]⟩:Sz) with da:=[]++[x.r.da]}:Sz),u')]).map (·.1)=grpK its S (k+1)):=by
     intro u';rw [grpK_new hx HNW.out,<- HG.out];simp
    obtain⟨b',off',e',hcell⟩:=hcx wz hb2;cases e'
    obtain⟨_,_,_,_,_,hfo,_,_⟩:=it_cells hcell hx
    have hbz:b<w5.heap.size:=by
     obtain⟨b',off',e',hcell⟩:=hcx w5 (Below.refl _ _);cases e'
     obtain⟨_,_,_,_,_,hfo,_,_⟩:=it_cells hcell hx;exact World.block_lt_of_cell? w5 _ hfo
    have hits:=HC5.out.1.below hb2;have hpl:ps.length<=500:=by have:=HM.out;omega
    clear hwE hbq kz1 hZ1 kr hb1 HNW hcx hx hcell HG;go_wp2;refine zone_new its apex x.fo x.r.ty x.r.tt w5.heap.size rb b off k m n lc uc la va vc ps (.string x.r.own) (.int .i64 x.r.cl) (.string x.r.da) hpl hn500 HITL hlt hm500 hbz _ wz kz2 kr2 hrz hZ2 hits hfo _ _ _ _ _ _ _ _ _ _ _ _ _ _ _ _ _ _ _ _ _ _ _ _ _ _ _ _ _ _ _ _ _ _ _ _ _ _ _ _ _ _ _ _ _ _ _ _ _ _ _ _ _ _ _ _ _ _ _ _ _ _ _ _ _ _ _ _ _ _ _ _ _ _ _ _ _ _ _ _ _ _ _ _ _ _ _ _ _ _ _ _ _ _ _ _ _ _ _ _ _ _ _ _ _ _ _ _ _ _ _ _ _ _ _ _ _ _ _ _ _ _ _ _ _ _ _ _ _ _ _ _ _ _ _ _ _ _ _ _ _ _ _ _ _ _ _ _ _ _ _ _ _ _ _ _ _ _ _ _ _ _ _ _ _ _ _ _ _ _ _ _ _ _ _ _ _ _ _ _ _ _ ?_;rintro u150 u151 u152 u153 u154 u155 u156 u157 u158 u159 u160 u161 u162 u163 u164 u165 u166 w7 ⟨vs2,kz7,kr7,hZ7,hb7⟩;have hb7:=hb2.trans hb7;clear kz2 kr2 hZ2 hits hfo hb2
    obtain⟨g7,gc7,rfl⟩:∃ g gc,vs2=.slice (some ⟨g,0,none⟩) (ps.length+1) gc:=by
     rcases hZ7.outer.2 with⟨_,h0⟩|⟨g,gc,cur,e,_⟩
     ·simp at h0
     ·exact⟨g,gc,by rw [e];simp⟩
    have r7:=fun i=>blk_cell kz7 i
    go_wp2;refine zone_more apex x.r.da w5.heap.size rb _ ps ⟨ownI its x.fo,x.r.ty,x.r.tt,[]⟩ none 0 (.string x.r.own) (.int .i64 x.r.ty) (.int .i64 x.r.cl) (.int .i64 x.r.tt) hpl (by simp) _ w7 kz7 kr7 hZ7 _ _ _ _ _ _ _ _ _ _ _ _ _ _ _ _ _ _ _ _ _ _ _ _ _ _ _ _ _ _ _ _ _ _ _ _ _ _ _ _ _ _ _ _ _ _ _ _ _ _ _ _ _ _ _ _ _ _ _ _ _ _ _ _ _ _ _ _ _ _ _ _ _ _ _ _ _ _ _ _ _ _ _ _ _ _ _ _ _ _ _ _ _ _ _ _ _ _ _ _ _ _ _ _ _ _ _ _ _ _ _ _ _ _ _ _ _ _ _ _ _ _ _ _ _ _ _ _ _ _ _ _ _ _ _ _ _ _ _ _ _ _ _ _ _ _ _ _ _ _ _ _ _ _ _ _ _ _ _ _ _ _ _ _ _ _ _ _ _ _ _ _ _ _ _ _ _ _ _ _ _ _ _ _ ?_;rintro u171 u172 u173 u174 u175 u176 u177 u178 u179 u180 u181 u182 u183 u184 u185 w8 ⟨u8,kz8,hZ8,hb8⟩;have HF:=Nm.hide (And.intro kz8 (And.intro hZ8 (hb7.trans (hb8.mono (Nat.le_succ _)))));clear kz8 hZ8 hb8 hb7;go_wp2;go_roundw
    case rel=>exact⟨k+1,_,_,by omega,by go_num,HF.out.1,HF.out.2.1,HG3.out _,HF.out.2.2⟩
    case measure=>simp [intOf];omega
   ·obtain⟨q,hm⟩:∃ q,k=q+1:=⟨k-1,by omega⟩;obtain⟨y,hy⟩:∃ y,S[q]? =some y:=⟨_,List.getElem?_eq_getElem (by have:=HSL.out;omega)⟩;obtain⟨d0,d1,d2,d3,d4,d5,d6,d7⟩:=it_cells hcell hy;have g0:((k:Int)==0)=false:=by simp;omega
    have g1:(k:Int)-1=(q:Int):=by omega
    have g2:(0:Int)<=(q:Int):=by omega
    have hwm:IntKind.i64.wrap (q:Int)=(q:Int):=Go.wrap_small _ (by omega) (by have:=HM.out;omega);have g3:(q:Int)<(m:Int):=by omega
    have HNS:Hid (newSet S k x=(!(y.fo.toList==x.fo.toList)||(y.r.ty != x.r.ty))):=by
     show _=_
     rw [hm,newSet,hy,ba_eq]
     by_cases h:y.r.ty=x.r.ty<;>simp [h]
    clear hcell d0 d2 d3 d4 d6 d7 hy hm
    cases hE:(y.fo.toList==x.fo.toList) with
    |false=>
     have nE:(y.fo.toList != x.fo.toList)=true:=by rw [bne,hE];rfl
     have HNW:Hid (newSet S k x=true):=by show _=_;rw [HNS.out,hE];rfl
     go_quiet (fail)
     generalize hwE:World.drewN wq _=wz;have hbq:Below wq.heap.size wq wz:=by rw [<- hwE];exact Go.below_drewN (Below.refl _ _) _
     have kz2:=blk_below kz1 hbq;have hZ2:=hZ1.below hbq;have kr2:=blk_below kr hbq;have hb2:=Nm.below_two hb1 hbq
     have HG3:Hid (∀ u':Value,(ps++[(({(⟨ownI its x.fo,x.r.ty,x.r.tt,[]⟩:Sz) with da:=[]++[x.r.da]}:Sz),u')]).map (·.1)=grpK its S (k+1)):=by
      intro u';rw [grpK_new hx HNW.out,<- HG.out];simp
     obtain⟨b',off',e',hcell⟩:=hcx wz hb2;cases e'
     obtain⟨_,_,_,_,_,hfo,_,_⟩:=it_cells hcell hx
     have hbz:b<w5.heap.size:=by
      obtain⟨b',off',e',hcell⟩:=hcx w5 (Below.refl _ _);cases e'
      obtain⟨_,_,_,_,_,hfo,_,_⟩:=it_cells hcell hx;exact World.block_lt_of_cell? w5 _ hfo
     have hits:=HC5.out.1.below hb2;have hpl:ps.length<=500:=by have:=HM.out;omega
     clear hwE hbq kz1 hZ1 kr hb1 HNW hcx hx hcell HG;go_wp2;refine zone_new its apex x.fo x.r.ty x.r.tt w5.heap.size rb b off k m n lc uc la va vc ps (.string x.r.own) (.int .i64 x.r.cl) (.string x.r.da) hpl hn500 HITL hlt hm500 hbz _ wz kz2 kr2 hrz hZ2 hits hfo _ _ _ _ _ _ _ _ _ _ _ _ _ _ _ _ _ _ _ _ _ _ _ _ _ _ _ _ _ _ _ _ _ _ _ _ _ _ _ _ _ _ _ _ _ _ _ _ _ _ _ _ _ _ _ _ _ _ _ _ _ _ _ _ _ _ _ _ _ _ _ _ _ _ _ _ _ _ _ _ _ _ _ _ _ _ _ _ _ _ _ _ _ _ _ _ _ _ _ _ _ _ _ _ _ _ _ _ _ _ _ _ _ _ _ _ _ _ _ _ _ _ _ _ _ _ _ _ _ _ _ _ _ _ _ _ _ _ _ _ _ _ _ _ _ _ _ _ _ _ _ _ _ _ _ _ _ _ _ _ _ _ _ _ _ _ _ _ _ _ _ _ _ _ _ _ _ _ _ _ _ _ ?_;rintro u150 u151 u152 u153 u154 u155 u156 u157 u158 u159 u160 u161 u162 u163 u164 u165 u166 w7 ⟨vs2,kz7,kr7,hZ7,hb7⟩;have hb7:=hb2.trans hb7;clear kz2 kr2 hZ2 hits hfo hb2
     obtain⟨g7,gc7,rfl⟩:∃ g gc,vs2=.slice (some ⟨g,0,none⟩) (ps.length+1) gc:=by
      rcases hZ7.outer.2 with⟨_,h0⟩|⟨g,gc,cur,e,_⟩
      ·simp at h0
      ·exact⟨g,gc,by rw [e];simp⟩
     have r7:=fun i=>blk_cell kz7 i
     go_wp2;refine zone_more apex x.r.da w5.heap.size rb _ ps ⟨ownI its x.fo,x.r.ty,x.r.tt,[]⟩ none 0 (.string x.r.own) (.int .i64 x.r.ty) (.int .i64 x.r.cl) (.int .i64 x.r.tt) hpl (by simp) _ w7 kz7 kr7 hZ7 _ _ _ _ _ _ _ _ _ _ _ _ _ _ _ _ _ _ _ _ _ _ _ _ _ _ _ _ _ _ _ _ _ _ _ _ _ _ _ _ _ _ _ _ _ _ _ _ _ _ _ _ _ _ _ _ _ _ _ _ _ _ _ _ _ _ _ _ _ _ _ _ _ _ _ _ _ _ _ _ _ _ _ _ _ _ _ _ _ _ _ _ _ _ _ _ _ _ _ _ _ _ _ _ _ _ _ _ _ _ _ _ _ _ _ _ _ _ _ _ _ _ _ _ _ _ _ _ _ _ _ _ _ _ _ _ _ _ _ _ _ _ _ _ _ _ _ _ _ _ _ _ _ _ _ _ _ _ _ _ _ _ _ _ _ _ _ _ _ _ _ _ _ _ _ _ _ _ _ _ _ _ _ _ ?_;rintro u171 u172 u173 u174 u175 u176 u177 u178 u179 u180 u181 u182 u183 u184 u185 w8 ⟨u8,kz8,hZ8,hb8⟩;have HF:=Nm.hide (And.intro kz8 (And.intro hZ8 (hb7.trans (hb8.mono (Nat.le_succ _)))));clear kz8 hZ8 hb8 hb7;go_wp2;go_roundw
     case rel=>exact⟨k+1,_,_,by omega,by go_num,HF.out.1,HF.out.2.1,HG3.out _,HF.out.2.2⟩
     case measure=>simp [intOf];omega
    |true=>
     have nE:(y.fo.toList != x.fo.toList)=false:=by rw [bne,hE];rfl
     cases hT:(y.r.ty != x.r.ty) with
     |true=>
      have HNW:Hid (newSet S k x=true):=by show _=_;rw [HNS.out,hE,hT];rfl
      go_quiet (fail)
      generalize hwE:World.drewN wq _=wz;have hbq:Below wq.heap.size wq wz:=by rw [<- hwE];exact Go.below_drewN (Below.refl _ _) _
      have kz2:=blk_below kz1 hbq;have hZ2:=hZ1.below hbq;have kr2:=blk_below kr hbq;have hb2:=Nm.below_two hb1 hbq
      have HG3:Hid (∀ u':Value,(ps++[(({(⟨ownI its x.fo,x.r.ty,x.r.tt,[]⟩:Sz) with da:=[]++[x.r.da]}:Sz),u')]).map (·.1)=grpK its S (k+1)):=by
       intro u';rw [grpK_new hx HNW.out,<- HG.out];simp
      obtain⟨b',off',e',hcell⟩:=hcx wz hb2;cases e'
      obtain⟨_,_,_,_,_,hfo,_,_⟩:=it_cells hcell hx
      have hbz:b<w5.heap.size:=by
       obtain⟨b',off',e',hcell⟩:=hcx w5 (Below.refl _ _);cases e'
       obtain⟨_,_,_,_,_,hfo,_,_⟩:=it_cells hcell hx;exact World.block_lt_of_cell? w5 _ hfo
      have hits:=HC5.out.1.below hb2;have hpl:ps.length<=500:=by have:=HM.out;omega
      clear hwE hbq kz1 hZ1 kr hb1 HNW hcx hx hcell HG;go_wp2;refine zone_new its apex x.fo x.r.ty x.r.tt w5.heap.size rb b off k m n lc uc la va vc ps (.string x.r.own) (.int .i64 x.r.cl) (.string x.r.da) hpl hn500 HITL hlt hm500 hbz _ wz kz2 kr2 hrz hZ2 hits hfo _ _ _ _ _ _ _ _ _ _ _ _ _ _ _ _ _ _ _ _ _ _ _ _ _ _ _ _ _ _ _ _ _ _ _ _ _ _ _ _ _ _ _ _ _ _ _ _ _ _ _ _ _ _ _ _ _ _ _ _ _ _ _ _ _ _ _ _ _ _ _ _ _ _ _ _ _ _ _ _ _ _ _ _ _ _ _ _ _ _ _ _ _ _ _ _ _ _ _ _ _ _ _ _ _ _ _ _ _ _ _ _ _ _ _ _ _ _ _ _ _ _ _ _ _ _ _ _ _ _ _ _ _ _ _ _ _ _ _ _ _ _ _ _ _ _ _ _ _ _ _ _ _ _ _ _ _ _ _ _ _ _ _ _ _ _ _ _ _ _ _ _ _ _ _ _ _ _ _ _ _ _ ?_;rintro u150 u151 u152 u153 u154 u155 u156 u157 u158 u159 u160 u161 u162 u163 u164 u165 u166 w7 ⟨vs2,kz7,kr7,hZ7,hb7⟩;have hb7:=hb2.trans hb7;clear kz2 kr2 hZ2 hits hfo hb2
      obtain⟨g7,gc7,rfl⟩:∃ g gc,vs2=.slice (some ⟨g,0,none⟩) (ps.length+1) gc:=by
       rcases hZ7.outer.2 with⟨_,h0⟩|⟨g,gc,cur,e,_⟩
       ·simp at h0
       ·exact⟨g,gc,by rw [e];simp⟩
      have r7:=fun i=>blk_cell kz7 i
      go_wp2;refine zone_more apex x.r.da w5.heap.size rb _ ps ⟨ownI its x.fo,x.r.ty,x.r.tt,[]⟩ none 0 (.string x.r.own) (.int .i64 x.r.ty) (.int .i64 x.r.cl) (.int .i64 x.r.tt) hpl (by simp) _ w7 kz7 kr7 hZ7 _ _ _ _ _ _ _ _ _ _ _ _ _ _ _ _ _ _ _ _ _ _ _ _ _ _ _ _ _ _ _ _ _ _ _ _ _ _ _ _ _ _ _ _ _ _ _ _ _ _ _ _ _ _ _ _ _ _ _ _ _ _ _ _ _ _ _ _ _ _ _ _ _ _ _ _ _ _ _ _ _ _ _ _ _ _ _ _ _ _ _ _ _ _ _ _ _ _ _ _ _ _ _ _ _ _ _ _ _ _ _ _ _ _ _ _ _ _ _ _ _ _ _ _ _ _ _ _ _ _ _ _ _ _ _ _ _ _ _ _ _ _ _ _ _ _ _ _ _ _ _ _ _ _ _ _ _ _ _ _ _ _ _ _ _ _ _ _ _ _ _ _ _ _ _ _ _ _ _ _ _ _ _ _ ?_;rintro u171 u172 u173 u174 u175 u176 u177 u178 u179 u180 u181 u182 u183 u184 u185 w8 ⟨u8,kz8,hZ8,hb8⟩;have HF:=Nm.hide (And.intro kz8 (And.intro hZ8 (hb7.trans (hb8.mono (Nat.le_succ _)))));clear kz8 hZ8 hb8 hb7;go_wp2;go_roundw
      case rel=>exact⟨k+1,_,_,by omega,by go_num,HF.out.1,HF.out.2.1,HG3.out _,HF.out.2.2⟩
      case measure=>simp [intOf];omega
     |false=>
      have HNW:Hid (newSet S k x=false):=by show _=_;rw [HNS.out,hE,hT];rfl
      go_quiet (fail)
      generalize hwE:World.drewN wq _=wz;have hbq:Below wq.heap.size wq wz:=by rw [<- hwE];exact Go.below_drewN (Below.refl _ _) _
      have kz2:=blk_below kz1 hbq;have hZ2:=hZ1.below hbq;have kr2:=blk_below kr hbq;have hb2:=Nm.below_two hb1 hbq;obtain⟨qs,s,hqs⟩:=grpK_last (l:=its) (srt:=S) k (by omega) (by have:=HSL.out;omega);have HD:Hid (s.da.length<=k):=(grpK_len (l:=its) (srt:=S) k (by have:=HSL.out;omega)).2 s (by rw [hqs];simp)
      obtain⟨ps0,u,rfl,hq0⟩:∃ ps0 u,ps=ps0++[(s,u)]∧ps0.map (·.1)=qs:=by
       have h1:=HG.out;rw [hqs] at h1
       rcases List.eq_nil_or_concat ps with h|⟨ps0,p,h⟩
       ·subst h;simp at h1
       ·subst h;simp only [List.concat_eq_append,List.map_append,List.map_cons,List.map_nil] at h1;obtain⟨h2,h3⟩:=List.append_inj' h1 rfl;simp at h3;exact⟨ps0,p.2,by simp [<- h3],h2⟩
      have HG3:Hid (∀ u':Value,(ps0++[(({s with da:=s.da++[x.r.da]}:Sz),u')]).map (·.1)=grpK its S (k+1)):=by
       intro u';rw [grpK_old hx HNW.out hqs,<- hq0];simp
      obtain⟨ux,uc,hu⟩:=own_sl (hZ2.inner ps0.length (s,u) (by simp));have hu2:u=.slice ux s.da.length uc:=hu;subst hu2;clear hu;have HPS:Hid (ps0.length+1<=k):=by show _<=_;simpa using hps
      clear hps;generalize hv2:Value.slice va (ps0++[(s,Value.slice ux s.da.length uc)]).length vc=vs2 at*;clear hwE hbq kz1 hZ1 kr hb1 HNW HNS hqs hq0 rr c1 c5 d1 d5 nE hT hE g0 g1 HG hx hk0
      obtain⟨g7,gc7,rfl⟩:∃ g gc,vs2=.slice (some ⟨g,0,none⟩) (ps0.length+1) gc:=by
       rcases hZ2.outer.2 with⟨_,h0⟩|⟨g,gc,cur,e,_⟩
       ·simp at h0
       ·exact⟨g,gc,by rw [e];simp⟩
      have r7:=fun i=>blk_cell kz2 i
      have hpl0:ps0.length<=500:=by have:=HM.out;have:=HPS.out;omega
      go_wp2;refine zone_more apex x.r.da w5.heap.size rb _ ps0 s ux uc (.string x.r.own) (.int .i64 x.r.ty) (.int .i64 x.r.cl) (.int .i64 x.r.tt) hpl0 (by have:=HD.out;have:=HM.out;omega) _ wz kz2 kr2 hZ2 _ _ _ _ _ _ _ _ _ _ _ _ _ _ _ _ _ _ _ _ _ _ _ _ _ _ _ _ _ _ _ _ _ _ _ _ _ _ _ _ _ _ _ _ _ _ _ _ _ _ _ _ _ _ _ _ _ _ _ _ _ _ _ _ _ _ _ _ _ _ _ _ _ _ _ _ _ _ _ _ _ _ _ _ _ _ _ _ _ _ _ _ _ _ _ _ _ _ _ _ _ _ _ _ _ _ _ _ _ _ _ _ _ _ _ _ _ _ _ _ _ _ _ _ _ _ _ _ _ _ _ _ _ _ _ _ _ _ _ _ _ _ _ _ _ _ _ _ _ _ _ _ _ _ _ _ _ _ _ _ _ _ _ _ _ _ _ _ _ _ _ _ _ _ _ _ _ _ _ _ _ _ _ _ ?_;have hb7:=hb2;rintro u171 u172 u173 u174 u175 u176 u177 u178 u179 u180 u181 u182 u183 u184 u185 w8 ⟨u8,kz8,hZ8,hb8⟩;have HF:=Nm.hide (And.intro kz8 (And.intro hZ8 (hb7.trans (hb8.mono (Nat.le_succ _)))));clear kz8 hZ8 hb8 hb7;go_wp2;go_roundw
      case rel=>exact⟨k+1,_,_,by omega,by go_num,HF.out.1,HF.out.2.1,HG3.out _,HF.out.2.2⟩
      case measure=>simp [intOf];omega
  ·obtain rfl:k=m:=by omega
   have n4:(k:Int)<=(k:Int):=by omega
   go_wp2;exact⟨_,ps,kz,hZ,by rw [HSL.out];exact HG.out,hbel⟩
end Go.Proofs.YtmdinnjimioffaaGreat
