import Derived.Test.YtfmolgdfjklmpaaGreatJSCheck
import Derived.Test.YtfmolgdfjklmpaaGreatJSls
import Derived.Test.YtfmolgdfjklmpaaGreatJBzC
import Derived.Test.YtfmolgdfjklmpaaGreatJTrD
import Derived.Test.YtfmolgdfjklmpaaGreatJBzL
import Derived.Test.YtfmolgdfjklmpaaGreatJZrM
import Derived.Test.YtfmolgdfjklmpaaGreatJMath
import Derived.Test.YtfmolgdfjklmpaaGreatJBzFSingle
import Derived.Test.YtfmolgdfjklmpaaGreatJDrH
import Derived.Test.YtfmolgdfjklmpaaGreatJZbT
import Derived.Test.YtfmolgdfjklmpaaGreatJTrL
import Derived.RangeFuncBox
import Derived.Maps.AppendAt
namespace Go.Proofs.YtfmolgdfjklmpaaGreat
open Go.RowKit
set_option linter.unusedVariables false
def thZ(ps:List Zp)(o name:ByteArray):Bool:=isUnderS name o&&ps.any fun p=>isUnderS p.1.own name
set_option maxRecDepth 100000 in
set_option maxHeartbeats 800000 in
theorem l06There_any(o name:ByteArray)(v:Value)(ps:List Zp)(w:World)(h:ZRow w v ps)(hf:∀ p∈ps,p.1.own.size<=1048576)(hn:name.size<=maxLen)(ho:o.size<=maxLen):
 Calls Tryz.prog 49 #[.agg #[.string o,v],.string name] w fun e w'=>e=.returned (.bool (thZ ps o name))∧Below w.heap.size w w':=by
 obtain⟨va,vc,rfl⟩:∃ va vc,v=.slice va ps.length vc:=by obtain⟨⟨_,a,c,e,_⟩,_⟩:=h;exact⟨a,c,e⟩
 have b0:=(Below.refl w.heap.size w).alloc (Nat.le_refl _) (.cells #[.string o,.slice va ps.length vc] 25);have k0:=blk_new w #[.string o,.slice va ps.length vc] 25;have hu0:=specIsUnder_any name o (w.alloc (.cells #[.string o,.slice va ps.length vc] 25)) hn ho;have HU:=Nm.hide (fun(x:ByteArray) (hx:x.size<=1048576) W=>specIsUnder_any x name W (by unfold maxLen;omega) hn);have HZ:=Nm.hide (fun W (hW:Below w.heap.size w W)=>h.below hW);have HF:=Nm.hide hf;have r0:=fun i=>blk_cell k0 i
 have hps:ps.length<=maxLen:=by obtain⟨⟨_,a,c,e,h1,h2,_⟩,_⟩:=h;simp only [Value.slice.injEq] at e;omega
 unfold maxLen at hps;obtain⟨R,hR⟩:∃ R,R=thZ ps o name:=⟨_,rfl⟩;rw [<- hR];rw [thZ] at hR;clear h hf
 cases hub:isUnderS name o with
 |false=>
  rw [hub] at hu0 hR;have HR:Hid (R=false):=hR;clear hub hR;go_enter Tryz.func49,Tryz.ntmps49;go_wp2_with fail
  refine hu0.mono ?_;rintro e w1 ⟨rfl,b1⟩;go_wp2;go_ret
  exact⟨by rw [HR.out];rfl,Nm.below_two b0 b1⟩
 |true=>
  rw [hub] at hu0 hR;have HR:Hid (R=ps.any fun p=>isUnderS p.1.own name):=by show _=_;rw [hR];rfl
  clear hub hR;go_enter Tryz.func49,Tryz.ntmps49;go_wp2_with fail
  refine hu0.mono ?_;rintro e w1 ⟨rfl,b1⟩;have k1:=blk_below k0 b1;have bw1:=Nm.below_two b0 b1;clear hu0 k0 r0 b0 b1;go_wp2
  go_loopw [5] (fun i wr=>∃ (j:Nat),j<=ps.length∧i=.int .i64 j∧Below w.heap.size w wr∧Blk wr w.heap.size #[.string o,.slice va ps.length vc] 25∧∀ i p,i<j->ps[i]? =some p->isUnderS p.1.own name=false) (fun i _=>ps.length-(intOf i).toNat)
  case atStart=>exact⟨0,Nat.zero_le _,rfl,bw1,k1,fun i p hi=>by omega⟩
  case round=>
   clear k1 bw1;obtain⟨j,hj,rfl,hb,kz,hno⟩:=hrel;have HNO:=Nm.hide hno;have rz:=fun i=>blk_cell kz i
   clear hno
   by_cases hlt:j<ps.length
   ·obtain⟨q,hq⟩:∃ q,ps[j]? =some q:=⟨_,List.getElem?_eq_getElem hlt⟩;obtain⟨⟨_,a9,c9,e9,_,_,hc9⟩,hd9⟩:=HZ.out _ hb;simp only [Value.slice.injEq] at e9;obtain⟨rfl,_,rfl⟩:=e9;obtain⟨b,off,rfl,hcell⟩:=hc9 (by omega);obtain⟨d0,d1,d2,d3⟩:=zp_cells hcell hq;have hqm:=List.mem_of_getElem? hq;have hus:=HU.out q.1.own (HF.out q hqm) wr;have n1:(0:Int)<=(j:Int):=by omega
    have n2:(j:Int)<(ps.length:Int):=by omega
    have HQ:=Nm.hide (And.intro hq hqm);clear hc9 hd9 hcell hq hqm d1 d2 d3
    cases hub:isUnderS q.1.own name with
    |true=>
     rw [hub] at hus;have HT:Hid (R=true):=by show _=_;rw [HR.out,List.any_eq_true];exact⟨q,HQ.out.2,hub⟩
     clear hub;go_wp2_with fail
     refine hus.mono ?_;rintro e w2 ⟨rfl,b2⟩;go_wp2;go_ret
     exact⟨by rw [HT.out];rfl,Nm.below_two hb b2⟩
    |false=>
     rw [hub] at hus
     have HN:Hid (∀ i p,i<j+1->ps[i]? =some p->isUnderS p.1.own name=false):=fun i p hi hp=>by
      rcases Nat.lt_or_ge i j with h1|h1
      ·exact HNO.out i p h1 hp
      ·obtain rfl:i=j:=by omega
       rw [HQ.out.1] at hp;obtain rfl:=Option.some.inj hp;exact hub
     clear hub;go_wp2_with (go_at_call 6;refine hus.mono ?_;rintro e w2 ⟨rfl,b2⟩)
     go_roundw
     case rel=>exact⟨j+1,hlt,by go_num,Nm.below_two hb b2,blk_below kz b2,HN.out⟩
     case measure=>simp [intOf];omega
   ·obtain rfl:j=ps.length:=by omega
    have i9:(ps.length:Int)<=(ps.length:Int):=by omega
    have HT:Hid (R=false):=by
     show _=_
     rw [HR.out,List.any_eq_false];intro p hp;obtain⟨i,hi⟩:=List.getElem?_of_mem hp;rw [HNO.out i p (List.getElem?_eq_some_iff.1 hi).1 hi];decide
    go_wp2;go_ret;exact⟨by rw [HT.out];rfl,hb⟩
set_option maxRecDepth 100000 in
set_option maxHeartbeats 1600000 in
theorem isOwnData_any(t:Int)(d:ByteArray)(w:World)(hd:d.size<=1048576):
 Calls Tryz.prog 88 #[.int .i64 t,.string d] w fun e w'=>e=.returned (.bool (ownB t d))∧Below w.heap.size w w':=by
 have hme:=fun W=>isMeta_any t W
 have hck:=fun W=>implCheckData_any t d W (by omega)
 have HM:Hid (ownB t d=(!metaB t&&(cutCode t d==0))):=rfl;generalize ownB t d=M at*;generalize metaB t=T at*;generalize cutCode t d=C at*
 cases T with
 |true=>
  obtain rfl:M=false:=by rw [HM.out];simp
  go_enter Tryz.func88,Tryz.ntmps88;go_wp2_with (go_at_call 131;refine(hme _).mono ?_;rintro e wf ⟨rfl,hw⟩;obtain rfl:=hw.symm;clear hw)
  go_ret
  exact⟨rfl,Below.refl _ _⟩
 |false=>
  obtain rfl:M=(C==0):=by rw [HM.out];simp
  go_enter Tryz.func88,Tryz.ntmps88;go_wp2_with (first|(go_at_call 131;refine(hme _).mono ?_;rintro e wf ⟨rfl,hw⟩;obtain rfl:=hw.symm;clear hw)|(go_at_call 130;refine(hck _).mono ?_;rintro e w1 ⟨rfl,hb1⟩))
  go_ret;exact⟨rfl,hb1⟩
set_option maxRecDepth 100000 in
set_option maxHeartbeats 1600000 in
set_option maxRecDepth 100000 in
set_option maxHeartbeats 1600000 in
theorem isSound_any(v:Value)(xs:List Rr)(w:World)(h:CRow w v xs.length 5 (rvVs xs))(hx:∀ r∈xs,r.own.size<=1048576∧r.da.size<=1048576):
 Calls Tryz.prog 20 #[v] w fun e w'=>e=.returned (.bool (listB xs))∧Below w.heap.size w w':=by
 have hs:=validRecords_any v xs w h hx;obtain⟨_,a,cap,rfl,hcap,hmx,_⟩:=h
 by_cases hl:xs.length<=400
 ·have hl':(xs.length:Int)<=400:=by omega
  have HL:Hid (listB xs=xs.all rcOK):=by show _=_;simp [listB,hl]
  generalize xs.all rcOK=B at*;go_enter Tryz.func20,Tryz.ntmps20;go_wp2_with fail
  refine hs.mono ?_;rintro e w1 ⟨rfl,hb1⟩;go_wp2;go_ret;rw [HL.out];exact⟨rfl,hb1⟩
 ·have hl':¬(xs.length:Int)<=400:=by omega
  have HL:Hid (listB xs=false):=by show _=_;simp [listB,hl]
  go_enter Tryz.func20,Tryz.ntmps20;go_wp2;go_ret;rw [HL.out];exact⟨rfl,Below.refl _ _⟩
def loopsZ:Code->List Code
 |.loop c=>[c]
 |.seq a b=>loopsZ a++loopsZ b
 |.block _ c=>loopsZ c
 |.scope c=>loopsZ c
 |.cond _ a b=>loopsZ a++loopsZ b
 |_=>[]
noncomputable def bzTop:List Code:=((Tryz.f12).body.map loopsZ).getD []
noncomputable def bzL3:Code:=(bzTop[2]?).getD .skip
def sndZ:Code->Code
 |.seq _ b=>b
 |c=>c
def fstZ:Code->Code
 |.seq a _=>a
 |c=>c
def inZ:Code->Code
 |.block _ c=>c
 |.cond _ a _=>a
 |c=>c
noncomputable def bzB:Code:=sndZ (inZ (fstZ (sndZ bzL3)))
noncomputable def bzM:Code:=sndZ (sndZ bzB)
noncomputable def bzN:Code:=inZ (sndZ (fstZ bzB))
theorem wrap64_sm{n:Nat}(h:n<=1000000):wrap64 (n:Int)=(n:Int):=by unfold wrap64;omega
theorem gen_worldZ{Pr G:World->Prop}{W:World}(h:Pr W)(k:∀ W,Pr W->G W):G W:=k W h
theorem Tryz.infoSetZ:(Tryz.prog.info? 53).map (fun i=>(i.zero,i.size,i.bytes))=some (some (.agg #[.string ByteArray.empty,.int .i64 0,.int .i64 0,.slice none 0 0]),4,56):=by kernel_rfl
theorem own_nbZ{W:World}{B e s n b:Nat}{v:Value}{xs:List Value}{cs:Array Value}{T:TypeId}(h:W.ownsRow B e s v n xs)(hb:Blk W b cs T)(hne:e≠T):v.ownBlock≠some b:=by
 intro he
 rcases h.2 with⟨rfl,_⟩|⟨g,cap,cur,rfl,_,hh,_⟩
 ·cases he
 ·simp only [Value.ownBlock,Option.some.injEq] at he;subst he;rw [Blk,hh] at hb;simp only [Option.some.injEq,Obj.cells.injEq] at hb;exact hne hb.2.1
set_option maxRecDepth 1000000 in
set_option maxHeartbeats 16000000 in
theorem zone_more(apex da:ByteArray)(zb rb:Nat)(vs2:Value)(ps0:List Zp)(s:Sz)(ux:Option Addr)(uc:Nat)(r0 r1 r2 r3:Value)(hpl0:ps0.length<=500)(hsl:s.da.length<=500)(Q0:Exit->Act->World->Prop)(wz:World)
 (kz2:Blk wz zb #[.string apex,vs2] 25) (kr2:Blk wz rb #[r0,r1,r2,r3,.string da] 33) (hZ2:ZOwn wz (zb+1) vs2 (ps0++[(s,.slice ux s.da.length uc)]))
 (s0 s1 s2 s3 s4 s5 s6 s7 s8 s9 s10 s11 s12 s13 s14 s16 s19 s20 s21 s22 s23 s24 s25 s26 s27 s28 s29 s30 s31 s32 s33 s34 s35 s36 s37 s38 s39 s40 s41 s42 s43 s44 s45 s46 s47 s48 s49 s50 s51 s52 s53 s54 s55 s56 s57 s58 s59 s60 s61 s62 s63 s64 s65 s66 s67 s68 s69 s70 s71 s72 s73 s74 s75 s76 s77 s78 s79 s80 s81 s82 s83 s84 s85 s86 s87 s88 s89 s90 s91 s92 s93 s94 s95 s96 s97 s98 s99 s100 s101 s102 s103 s104 s105 s106 s107 s108 s109 s110 s111 s112 s113 s114 s115 s116 s117 s118 s119 s120 s121 s122 s123 s124 s125 s126 s127 s128 s129 s130 s131 s132 s133 s134 s135 s136 s137 s138 s139 s140 s141 s142 s143 s144 s145 s146 s147 s148 s149 s150 s151 s152 s153 s154 s155 s156 s157 s158 s159 s160 s161 s162 s163 s164 s165 s166 s167 s168 s169 s170 s171 s172 s173 s174 s175 s176 s177 s178 s179 s180 s181 s182 s183 s184 s185 s186:Value)
 (hexit:∀ (u171 u172 u173 u174 u175 u176 u177 u178 u179 u180 u181 u182 u183 u184 u185:Value) (w':World),(∃ u',Blk w' zb #[.string apex,vs2] 25∧ZOwn w' (zb+1) vs2 (ps0++[(({s with da:=s.da++[da]}:Sz),u')])∧Below (zb+1) wz w')->Q0 .normal ⟨(s0::s1::s2::s3::s4::s5::s6::s7::s8::s9::s10::s11::s12::s13::s14::.pointer (some ⟨zb,0,none⟩)::s16::.pointer (some ⟨rb,0,none⟩)::.int .i64 (ps0.length:Int)::s19::s20::s21::s22::s23::s24::s25::s26::s27::s28::s29::s30::s31::s32::s33::s34::s35::s36::s37::s38::s39::s40::s41::s42::s43::s44::s45::s46::s47::s48::s49::s50::s51::s52::s53::s54::s55::s56::s57::s58::s59::s60::s61::s62::s63::s64::s65::s66::s67::s68::s69::s70::s71::s72::s73::s74::s75::s76::s77::s78::s79::s80::s81::s82::s83::s84::s85::s86::s87::s88::s89::s90::s91::s92::s93::s94::s95::s96::s97::s98::s99::s100::s101::s102::s103::s104::s105::s106::s107::s108::s109::s110::s111::s112::s113::s114::s115::s116::s117::s118::s119::s120::s121::s122::s123::s124::s125::s126::s127::s128::s129::s130::s131::s132::s133::s134::s135::s136::s137::s138::s139::s140::s141::s142::s143::s144::s145::s146::s147::s148::s149::s150::s151::s152::s153::s154::s155::s156::s157::s158::s159::s160::s161::s162::s163::s164::s165::s166::s167::s168::s169::s170::u171::u172::u173::u174::u175::u176::u177::u178::u179::u180::u181::u182::u183::u184::u185::s186::[]).toArray,[]⟩ w'):
 Code.wp Tryz.prog bzM Q0 ⟨(s0::s1::s2::s3::s4::s5::s6::s7::s8::s9::s10::s11::s12::s13::s14::.pointer (some ⟨zb,0,none⟩)::s16::.pointer (some ⟨rb,0,none⟩)::.int .i64 (ps0.length:Int)::s19::s20::s21::s22::s23::s24::s25::s26::s27::s28::s29::s30::s31::s32::s33::s34::s35::s36::s37::s38::s39::s40::s41::s42::s43::s44::s45::s46::s47::s48::s49::s50::s51::s52::s53::s54::s55::s56::s57::s58::s59::s60::s61::s62::s63::s64::s65::s66::s67::s68::s69::s70::s71::s72::s73::s74::s75::s76::s77::s78::s79::s80::s81::s82::s83::s84::s85::s86::s87::s88::s89::s90::s91::s92::s93::s94::s95::s96::s97::s98::s99::s100::s101::s102::s103::s104::s105::s106::s107::s108::s109::s110::s111::s112::s113::s114::s115::s116::s117::s118::s119::s120::s121::s122::s123::s124::s125::s126::s127::s128::s129::s130::s131::s132::s133::s134::s135::s136::s137::s138::s139::s140::s141::s142::s143::s144::s145::s146::s147::s148::s149::s150::s151::s152::s153::s154::s155::s156::s157::s158::s159::s160::s161::s162::s163::s164::s165::s166::s167::s168::s169::s170::s171::s172::s173::s174::s175::s176::s177::s178::s179::s180::s181::s182::s183::s184::s185::s186::[]).toArray,[]⟩ wz:=by
 obtain⟨s0,hs,hx0,hx1,hx2⟩:=info_parts Tryz.infoStr
 obtain⟨g,gc,rfl⟩:∃ g gc,vs2=.slice (some ⟨g,0,none⟩) (ps0.length+1) gc:=by
  rcases hZ2.outer.2 with⟨_,h0⟩|⟨g,gc,cur,e,_⟩
  ·simp at h0
  ·exact⟨g,gc,by rw [e];simp⟩
 have hlast:(ps0++[(s,Value.slice ux s.da.length uc)])[ps0.length]? =some (s,Value.slice ux s.da.length uc):=by simp
 have hin:wz.ownsRow (zb+1) 9 1 (.slice ux s.da.length uc) s.da.length (s.da.map Value.string):=hZ2.inner _ _ hlast;have hou:=hZ2.outer;rw [List.length_append,List.length_singleton] at hou;have hcu:wz.cell? ⟨g,ps0.length*4+3,none⟩=some (.slice ux s.da.length uc):=(hou.cellAt (ps0.length*4+3) (by omega)).trans ((zpVs_at _ _ 3 _ hlast (by decide)).trans rfl);have hfu:=hou.frozenAt (ps0.length*4+3);have rz2:=fun i=>blk_cell kz2 i
 have rr2:=fun i=>blk_cell kr2 i
 have hpl:ps0.length<=500:=by
  exact hpl0
 have hwp:=wrap64_sm (n:=ps0.length) (Nat.le_trans hpl (by decide));have m1:(0:Int)<=(ps0.length:Int):=Int.natCast_nonneg _;have m2:(ps0.length:Int)<(ps0.length:Int)+1:=Int.lt_add_one_of_le (Int.le_refl _);have hlz:=blk_lt kz2
 conv=>arg 2;whnf
 refine wp_region_noPanic ?_;refine wp_region_last (fun W=>W.cell? ⟨zb,1,none⟩=some (.slice (some ⟨g,0,none⟩) (ps0.length+1) gc)∧W.cell? ⟨g,ps0.length*4+3,none⟩=some (.slice ux s.da.length uc)∧W.cell? ⟨rb,4,none⟩=some (.string da)∧True) 15 (by kernel_rfl) ⟨rz2 1,hcu,rr2 4,trivial⟩ (fun hHeld=>?_);refine tkL (i:=0) (v:=?_) rfl ?_ ?_;rotate_left 1
 ·(intro W hSW;obtain⟨z0,z1,z2,z3⟩:=hSW;go_simp;try (with_reducible rfl))
 refine tkL (i:=1) (v:=?_) rfl ?_ ?_;rotate_left 1
 ·(intro W hSW;obtain⟨z0,z1,z2,z3⟩:=hSW;go_simp;try (with_reducible rfl))
 refine tkL (i:=2) (v:=?_) rfl ?_ ?_;rotate_left 1
 ·(intro W hSW;obtain⟨z0,z1,z2,z3⟩:=hSW;go_simp;try (with_reducible rfl))
 refine tkL (i:=3) (v:=?_) rfl ?_ ?_;rotate_left 1
 ·(intro W hSW;obtain⟨z0,z1,z2,z3⟩:=hSW;go_simp;try (with_reducible rfl))
 refine tkL (i:=4) (v:=?_) rfl ?_ ?_;rotate_left 1
 ·(intro W hSW;obtain⟨z0,z1,z2,z3⟩:=hSW;go_simp;try (with_reducible rfl))
 refine tkL (i:=5) (v:=?_) rfl ?_ ?_;rotate_left 1
 ·(intro W hSW;obtain⟨z0,z1,z2,z3⟩:=hSW;go_simp;try (with_reducible rfl))
 refine tkL (i:=6) (v:=?_) rfl ?_ ?_;rotate_left 1
 ·(intro W hSW;obtain⟨z0,z1,z2,z3⟩:=hSW;go_simp;try (with_reducible rfl))
 refine tkL (i:=7) (v:=?_) rfl ?_ ?_;rotate_left 1
 ·(intro W hSW;obtain⟨z0,z1,z2,z3⟩:=hSW;go_simp;try (with_reducible rfl))
 refine tkL (i:=8) (v:=?_) rfl ?_ ?_;rotate_left 1
 ·(intro W hSW;obtain⟨z0,z1,z2,z3⟩:=hSW;go_simp;try (with_reducible rfl))
 refine tkL (i:=9) (v:=?_) rfl ?_ ?_;rotate_left 1
 ·(intro W hSW;obtain⟨z0,z1,z2,z3⟩:=hSW;go_simp;try (with_reducible rfl))
 refine tkL (i:=10) (v:=?_) rfl ?_ ?_;rotate_left 1
 ·(intro W hSW;obtain⟨z0,z1,z2,z3⟩:=hSW;go_simp;try (with_reducible rfl))
 refine wpAnyL_one (i:=11) (by kernel_rfl) rfl (fun K hK=>?_);go_simp;refine hK.out _ _ ⟨(blk_cell (blk_below kz2 ((Below.refl _ _).drew.alloc (Nat.le_refl _) _)) 1),((((Below.refl _ _).drew.alloc (Nat.le_refl _) _).cell (World.block_lt_of_cell? wz _ hcu)).trans hcu),(blk_cell (blk_below kr2 ((Below.refl _ _).drew.alloc (Nat.le_refl _) _)) 4),trivial⟩ (fun _=>?_);clear hK K;refine wpAnyL_one (i:=12) (by kernel_rfl) rfl (fun K hK=>?_);refine step_append_own_at rfl (.tmp 179) (.tmp 182) 46 rfl (zb+1) 9 s0 _ 1 16 Tryz.underlying46 hs hx0 hx1 hx2 rfl (by decide) _ _ _ (by rfl) (own_below hin ((Below.refl _ _).drew.alloc (Nat.le_refl _) _)) ⟨wz.heap.size,0,none⟩ 1 1 [.string da] (by rfl) rfl (cell_newV _ _ _) (by intro u hu;simp at hu;rcases hu with rfl;rfl) (by unfold maxLen;omega) (by omega) (by simp;omega) ?_;intro va wa ho9 hg9 hnl9 hat9;have hbz:Below wz.heap.size wz (wz.drew.alloc (.cells #[.string da] 9)):=(Below.refl _ _).drew.alloc (Nat.le_refl _) _;have hZ3:=(hZ2.below hbz).more ho9 hg9 (by rcases hat9 with h|h;exact .inl h;right;intro g' e;rw [h] at e;simp at e;simp;omega);have kz3:=blk_grown (blk_below kz2 hbz) hg9 (own_nbZ (own_below hin hbz) (blk_below kz2 hbz) (by decide));have kr3:=blk_grown (blk_below kr2 hbz) hg9 (own_nbZ (own_below hin hbz) (blk_below kr2 hbz) (by decide));have hou3:=own_besideZ (own_below hou hbz) hg9 (own_kindsZ (own_below hou hbz) (own_below hin hbz) (by decide));have hcu3:wa.cell? ⟨g,ps0.length*4+3,none⟩=some (.slice ux s.da.length uc):=(hou3.cellAt (ps0.length*4+3) (by omega)).trans ((zpVs_at _ _ 3 _ hlast (by decide)).trans rfl);have hfu3:=hou3.frozenAt (ps0.length*4+3);have hgB:=(hou3.lt g rfl).1;have hb3:Below (zb+1) wz wa:=(hbz.mono (by omega)).grown hg9 (by simp;omega) (fun g hg=>(hin.lt g hg).1);have hgz:=own_nbZ hou3 kz3 (by decide);obtain⟨xa,xc,rfl⟩:=own_sl ho9;have kz4:Blk (wa.setCell ⟨g,ps0.length*4+3,none⟩ (.slice xa (s.da.length+1) xc)) zb #[.string apex,.slice (some ⟨g,0,none⟩) (ps0.length+1) gc] 25:=blk_far kz3 (fun e=>hgz (by rw [e];rfl));refine hK.out _ _ ⟨(blk_cell kz3 1),hcu3,(blk_cell kr3 4),trivial⟩ (fun _=>?_);clear hK K;refine wpAnyL_one (i:=13) (by kernel_rfl) rfl (fun K hK=>?_);go_simp;refine hK.out _ _ ⟨(blk_cell kz3 1),hcu3,(blk_cell kr3 4),trivial⟩ (fun _=>?_);clear hK K;refine tkL (i:=14) (v:=?_) rfl ?_ ?_;rotate_left 1
 ·(intro W hSW;obtain⟨z0,z1,z2,z3⟩:=hSW;go_simp;try (with_reducible rfl))
 refine wpAnyL_end (by kernel_rfl) rfl (by kernel_rfl) (fun K hK=>?_);go_simp;refine hK.out _ _ (NoPanic.normal ?_);clear hK K hat9 hnl9 hg9 ho9 kr3 kz3 hou3 hou hin;have HF:=Nm.hide (And.intro kz4 (And.intro hZ3 (hb3.setCell (p:=⟨g,ps0.length*4+3,none⟩) hgB (.slice xa (s.da.length+1) xc))));clear kz4 hZ3 hb3
 first
  |exact⟨_,HF.out.1,HF.out.2.1,HF.out.2.2⟩
  |(refine hexit _ _ _ _ _ _ _ _ _ _ _ _ _ _ _ _ ?_;exact⟨_,HF.out.1,HF.out.2.1,HF.out.2.2⟩)
set_option maxRecDepth 1000000 in
set_option maxHeartbeats 16000000 in
theorem zone_new(its:List It)(apex fo:ByteArray)(ty tt:Int)(zb rb b off k m n lc uc:Nat)(la va:Option Addr)(vc:Nat)(ps:List Zp)(r0 r2 r4:Value)(hpl:ps.length<=500)(hn:n<=500)(HITL:Hid (its.length=n))(hkm:k<m)(hm:m<=500)(hbz:b<zb)(Q0:Exit->Act->World->Prop)(wz:World)
 (kz2:Blk wz zb #[.string apex,.slice va ps.length vc] 25) (kr2:Blk wz rb #[r0,.int .i64 ty,r2,.int .i64 tt,r4] 33) (hrz:rb≠zb) (hZ2:ZOwn wz (zb+1) (.slice va ps.length vc) ps)
 (hits:CRow wz (.slice la n lc) n 8 (itCs its)) (hfo:wz.cell? ⟨b,off+k*8+5,none⟩=some (.string fo))
 (s0 s1 s2 s3 s4 s5 s6 s8 s9 s10 s11 s12 s14 s18 s19 s20 s21 s22 s23 s24 s25 s26 s27 s28 s29 s30 s31 s32 s33 s34 s35 s36 s37 s38 s39 s40 s41 s42 s43 s44 s45 s46 s47 s48 s49 s50 s51 s52 s53 s54 s55 s56 s57 s58 s59 s60 s61 s62 s63 s64 s65 s66 s67 s68 s69 s70 s71 s72 s73 s74 s75 s76 s77 s78 s79 s80 s81 s82 s83 s84 s85 s86 s87 s88 s89 s90 s91 s92 s93 s94 s95 s96 s97 s98 s99 s100 s101 s102 s103 s104 s105 s106 s107 s108 s109 s110 s111 s112 s113 s114 s115 s116 s117 s118 s119 s120 s121 s122 s123 s124 s125 s126 s127 s128 s129 s130 s131 s132 s133 s134 s135 s136 s137 s138 s139 s140 s141 s142 s143 s144 s145 s146 s147 s148 s149 s150 s151 s152 s153 s154 s155 s156 s157 s158 s159 s160 s161 s162 s163 s164 s165 s166 s167 s168 s169 s170 s171 s172 s173 s174 s175 s176 s177 s178 s179 s180 s181 s182 s183 s184 s185 s186:Value)
 (hexit:∀ (u150 u151 u152 u153 u154 u155 u156 u157 u158 u159 u160 u161 u162 u163 u164 u165 u166:Value) (w':World),(∃ vs',Blk w' zb #[.string apex,vs'] 25∧Blk w' rb #[r0,.int .i64 ty,r2,.int .i64 tt,r4] 33∧ZOwn w' (zb+1) vs' (ps++[((⟨ownI its fo,ty,tt,[]⟩:Sz),.slice none 0 0)])∧Below zb wz w')->Q0 .normal ⟨(s0::s1::s2::s3::s4::s5::s6::.slice la n lc::s8::s9::s10::s11::s12::.slice (some ⟨b,off,none⟩) m uc::s14::.pointer (some ⟨zb,0,none⟩)::.int .i64 (k:Int)::.pointer (some ⟨rb,0,none⟩)::s18::s19::s20::s21::s22::s23::s24::s25::s26::s27::s28::s29::s30::s31::s32::s33::s34::s35::s36::s37::s38::s39::s40::s41::s42::s43::s44::s45::s46::s47::s48::s49::s50::s51::s52::s53::s54::s55::s56::s57::s58::s59::s60::s61::s62::s63::s64::s65::s66::s67::s68::s69::s70::s71::s72::s73::s74::s75::s76::s77::s78::s79::s80::s81::s82::s83::s84::s85::s86::s87::s88::s89::s90::s91::s92::s93::s94::s95::s96::s97::s98::s99::s100::s101::s102::s103::s104::s105::s106::s107::s108::s109::s110::s111::s112::s113::s114::s115::s116::s117::s118::s119::s120::s121::s122::s123::s124::s125::s126::s127::s128::s129::s130::s131::s132::s133::s134::s135::s136::s137::s138::s139::s140::s141::s142::s143::s144::s145::s146::s147::s148::s149::u150::u151::u152::u153::u154::u155::u156::u157::u158::u159::u160::u161::u162::u163::u164::u165::u166::s167::s168::s169::s170::s171::s172::s173::s174::s175::s176::s177::s178::s179::s180::s181::s182::s183::s184::s185::s186::[]).toArray,[]⟩ w'):
 Code.wp Tryz.prog bzN Q0 ⟨(s0::s1::s2::s3::s4::s5::s6::.slice la n lc::s8::s9::s10::s11::s12::.slice (some ⟨b,off,none⟩) m uc::s14::.pointer (some ⟨zb,0,none⟩)::.int .i64 (k:Int)::.pointer (some ⟨rb,0,none⟩)::s18::s19::s20::s21::s22::s23::s24::s25::s26::s27::s28::s29::s30::s31::s32::s33::s34::s35::s36::s37::s38::s39::s40::s41::s42::s43::s44::s45::s46::s47::s48::s49::s50::s51::s52::s53::s54::s55::s56::s57::s58::s59::s60::s61::s62::s63::s64::s65::s66::s67::s68::s69::s70::s71::s72::s73::s74::s75::s76::s77::s78::s79::s80::s81::s82::s83::s84::s85::s86::s87::s88::s89::s90::s91::s92::s93::s94::s95::s96::s97::s98::s99::s100::s101::s102::s103::s104::s105::s106::s107::s108::s109::s110::s111::s112::s113::s114::s115::s116::s117::s118::s119::s120::s121::s122::s123::s124::s125::s126::s127::s128::s129::s130::s131::s132::s133::s134::s135::s136::s137::s138::s139::s140::s141::s142::s143::s144::s145::s146::s147::s148::s149::s150::s151::s152::s153::s154::s155::s156::s157::s158::s159::s160::s161::s162::s163::s164::s165::s166::s167::s168::s169::s170::s171::s172::s173::s174::s175::s176::s177::s178::s179::s180::s181::s182::s183::s184::s185::s186::[]).toArray,[]⟩ wz:=by
 obtain⟨j0,hj,hy0,hy1,hy2⟩:=info_parts Tryz.infoSetZ;have hown:=fun W (hW:Below wz.heap.size wz W)=>l06Owner_any (.slice la n lc) its fo W (by rw [HITL.out];exact hits.below hW) (by rw [HITL.out];omega)
 have n1:(0:Int)<=(k:Int):=by omega
 have n2:(k:Int)<(m:Int):=by omega
 have hlz:=blk_lt kz2;have rz2:=fun i=>blk_cell kz2 i
 have rr2:=fun i=>blk_cell kr2 i
 have hwk:IntKind.i64.wrap (k:Int)=(k:Int):=Go.wrap_small _ (by omega) (by omega)
 conv=>arg 2;whnf
 refine wp_region_noPanic ?_;refine wp_region_last (fun W=>W.cell? ⟨zb,1,none⟩=some (.slice va ps.length vc)∧W.cell? ⟨b,off+k*8+5,none⟩=some (.string fo)∧W.cell? ⟨rb,1,none⟩=some (.int .i64 ty)∧W.cell? ⟨rb,3,none⟩=some (.int .i64 tt)) 17 (by kernel_rfl) ⟨rz2 1,hfo,rr2 1,rr2 3⟩ (fun hHeld=>?_);refine tkL (i:=0) (v:=?_) rfl ?_ ?_;rotate_left 1
 ·(intro W hSW;obtain⟨z0,z1,z2,z3⟩:=hSW;go_simp;try (with_reducible rfl))
 refine tkL (i:=1) (v:=?_) rfl ?_ ?_;rotate_left 1
 ·(intro W hSW;obtain⟨z0,z1,z2,z3⟩:=hSW;go_simp;try (with_reducible rfl))
 refine tkL (i:=2) (v:=?_) rfl ?_ ?_;rotate_left 1
 ·(intro W hSW;obtain⟨z0,z1,z2,z3⟩:=hSW;go_simp;try (with_reducible rfl))
 refine tkL (i:=3) (v:=?_) rfl ?_ ?_;rotate_left 1
 ·(intro W hSW;obtain⟨z0,z1,z2,z3⟩:=hSW;go_simp;try (with_reducible rfl))
 refine tkL (i:=4) (v:=?_) rfl ?_ ?_;rotate_left 1
 ·(intro W hSW;obtain⟨z0,z1,z2,z3⟩:=hSW;go_simp;try (with_reducible rfl))
 refine tkL (i:=5) (v:=?_) rfl ?_ ?_;rotate_left 1
 ·(intro W hSW;obtain⟨z0,z1,z2,z3⟩:=hSW;go_simp;try (with_reducible rfl))
 refine tkL (i:=6) (v:=?_) rfl ?_ ?_;rotate_left 1
 ·(intro W hSW;obtain⟨z0,z1,z2,z3⟩:=hSW;go_simp;try (with_reducible rfl))
 refine tkL (i:=7) (v:=?_) rfl ?_ ?_;rotate_left 1
 ·(intro W hSW;obtain⟨z0,z1,z2,z3⟩:=hSW;go_simp;try (with_reducible rfl))
 refine tkL (i:=9) (v:=?_) rfl ?_ ?_;rotate_left 1
 ·(intro W hSW;obtain⟨z0,z1,z2,z3⟩:=hSW;go_simp;try (with_reducible rfl))
 refine tkL (i:=10) (v:=?_) rfl ?_ ?_;rotate_left 1
 ·(intro W hSW;obtain⟨z0,z1,z2,z3⟩:=hSW;go_simp;try (with_reducible rfl))
 refine tkL (i:=11) (v:=?_) rfl ?_ ?_;rotate_left 1
 ·(intro W hSW;obtain⟨z0,z1,z2,z3⟩:=hSW;go_simp;try (with_reducible rfl))
 refine tkL (i:=12) (v:=?_) rfl ?_ ?_;rotate_left 1
 ·(intro W hSW;obtain⟨z0,z1,z2,z3⟩:=hSW;go_simp;try (with_reducible rfl))
 refine wpAnyL_one (i:=8) (by kernel_rfl) rfl (fun K hK=>?_);go_simp;refine(hown _ (Below.refl _ _).drew).mono ?_;rintro e wv ⟨rfl,hwv⟩;obtain rfl:=hwv;go_wp2_with fail
 refine hK.out _ _ (by assumption) (fun _=>?_);clear hK K hown;generalize ownI its fo=OW at*;refine tkL (i:=13) (v:=?_) rfl ?_ ?_;rotate_left 1
 ·(intro W hSW;obtain⟨z0,z1,z2,z3⟩:=hSW;go_simp;try (with_reducible rfl))
 have hbz1:∀ o:Obj,Below wz.heap.size wz (wz.drew.alloc o):=fun o=>(Below.refl _ _).drew.alloc (Nat.le_refl _) _
 refine wpAnyL_one (i:=14) (by kernel_rfl) rfl (fun K hK=>?_);go_simp;refine hK.out _ _ ⟨(blk_cell (blk_below kz2 (hbz1 _)) 1),((hbz1 _).cell (World.block_lt_of_cell? wz _ hfo)).trans hfo,(blk_cell (blk_below kr2 (hbz1 _)) 1),(blk_cell (blk_below kr2 (hbz1 _)) 3)⟩ (fun _=>?_);clear hK K;refine wpAnyL_one (i:=15) (by kernel_rfl) rfl (fun K hK=>?_);refine step_append_own_at rfl (.tmp 151) (.tmp 164) 23 rfl (zb+1) 53 j0 _ 4 56 Tryz.underlying23 hj hy0 hy1 hy2 rfl (by decide) _ _ _ (by rfl) (own_below hZ2.outer (hbz1 _)) ⟨wz.heap.size,0,none⟩ 1 1 [.string OW,.int .i64 ty,.int .i64 tt,.slice none 0 0] (by rfl) rfl (cell_newV _ _ _) (by intro u hu;simp at hu;rcases hu with rfl|rfl|rfl|rfl<;>rfl) (by unfold maxLen;omega) (by omega) (by simp;omega) ?_;intro vv wa ho9 hg9 hnl9 hat9;have hZ3:=((hZ2.below (hbz1 _)).snoc (s:=⟨OW,ty,tt,[]⟩) (u:=.slice none 0 0) (World.ownsRow_nil _ _ _ _) (by intro p hp g hg;simp [Value.ownBlock]) ho9 hg9);have oo:=own_below hZ2.outer (hbz1 (.cells #[.string OW,.int .i64 ty,.int .i64 tt,.slice none 0 0] 53));have kz3:=blk_grown (blk_below kz2 (hbz1 _)) hg9 (own_nbZ oo (blk_below kz2 (hbz1 _)) (by decide));have kr3:=blk_grown (blk_below kr2 (hbz1 _)) hg9 (own_nbZ oo (blk_below kr2 (hbz1 _)) (by decide));have hb3:Below (zb+1) wz wa:=((hbz1 _).mono (by omega)).grown hg9 (by simp;omega) (fun g hg=>(hZ2.outer.lt g hg).1);have hfo3:=(hb3.cell (p:=⟨b,off+k*8+5,none⟩) (by show b<zb+1;omega)).trans hfo;obtain⟨xa,xc,rfl⟩:=own_sl ho9;have r3:=fun i=>blk_cell kz3 i
 have f3:=fun i=>blk_frozen kz3 i
 refine hK.out _ _ ⟨(blk_cell kz3 1),hfo3,(blk_cell kr3 1),(blk_cell kr3 3)⟩ (fun _=>?_);clear hK K;refine tkL (i:=16) (v:=?_) rfl ?_ ?_;rotate_left 1
 ·(intro W hSW;obtain⟨z0,z1,z2,z3⟩:=hSW;go_simp;try (with_reducible rfl))
 have kz4:=blk_set kz3 1 (.slice xa (ps.length+1) xc);have kr4:=blk_far (v:=.slice xa (ps.length+1) xc) (i:=1) kr3 hrz;have HF:=Nm.hide (And.intro kz4 (And.intro kr4 (And.intro (hZ3.far (g:=zb) (i:=1) (y:=.slice xa (ps.length+1) xc) (by omega)) ((hb3.mono (Nat.le_succ _)).setCell (p:=⟨zb,1,none⟩) (Nat.le_refl _) (.slice xa (ps.length+1) xc)))));refine wpAnyL_end (by kernel_rfl) rfl (by kernel_rfl) (fun K hK=>?_);go_simp;refine hK.out _ _ (NoPanic.normal ?_);clear hK K hat9 hnl9 hg9 ho9 kr3 kz3 kz4 kr4 hZ3 hb3;refine hexit _ _ _ _ _ _ _ _ _ _ _ _ _ _ _ _ _ _ ?_;exact⟨_,HF.out.1,HF.out.2.1,HF.out.2.2.1,HF.out.2.2.2⟩
end Go.Proofs.YtfmolgdfjklmpaaGreat
namespace Go.Proofs.YtfmolgdfjklmpaaGreat
open Go.RowKit Go.Shelf
set_option linter.unusedVariables false
attribute [local go_sem] Oper.semAt_some
theorem infoI64K:(Tryz.prog.info? 2).map (fun i=>(i.zero,i.size,i.bytes))=some (some (.int .i64 0),1,8):=by kernel_rfl
end Go.Proofs.YtfmolgdfjklmpaaGreat
namespace Go.Proofs.YtfmolgdfjklmpaaGreat
open Go.RowKit
set_option linter.unusedVariables false
def ZHas(w:World)(B:Nat)(v:Value)(ps:List Zp):Prop:=w.ownsRow B 53 4 v ps.length (zpVs ps)∧∀ p∈ps,w.ownsRow B 9 1 p.2 p.1.da.length (p.1.da.map Value.string)
def ZKp(w:World)(B:Nat)(v:Value)(ps:List Zp):Prop:=∀ W:World,(∀ b,B<=b->b<w.heap.size->W.heap[b]? =w.heap[b]?)->ZRow W v ps
section
variable {w:World}{B:Nat}{v:Value}{ps:List Zp}
theorem ZOwn.has(h:ZOwn w B v ps):ZHas w B v ps:=⟨h.outer,fun p hp=>by obtain⟨i,hi⟩:=List.getElem?_of_mem hp;exact h.inner i p hi⟩
theorem ZHas.blk{c i:Nat}{x:Value}{cs:Array Value}{T:TypeId}(h:ZHas w B v ps)(hk:Blk w c cs T)(h1:53≠T)(h2:9≠T):ZHas (w.setCell ⟨c,i,none⟩ x) B v ps:=
 ⟨own_far h.1 (own_nb h.1 hk h1),fun p hp=>own_far (h.2 p hp) (own_nb (h.2 p hp) hk h2)⟩
theorem ZHas.below{w1:World}(h:ZHas w B v ps)(hb:Below w.heap.size w w1):ZHas w1 B v ps:=⟨own_below h.1 hb,fun p hp=>own_below (h.2 p hp) hb⟩
theorem ZHas.put{g cap j i:Nat}{p q:Zp}{y:Value}(h:ZHas w B (.slice (some ⟨g,0,none⟩) ps.length cap) ps)(hp:ps[j]? =some p)(hi:i<4)(hz:(zpV p).set i y=zpV q)(hq:∀ X:World,X.ownsRow B 9 1 p.2 p.1.da.length (p.1.da.map Value.string)->X.ownsRow B 9 1 q.2 q.1.da.length (q.1.da.map Value.string)):ZHas (w.setCell ⟨g,j*4+i,none⟩ y) B (.slice (some ⟨g,0,none⟩) ps.length cap) (ps.set j q):=by
 have hj:=(List.getElem?_eq_some_iff.1 hp).1
 have e1:(zpVs ps).set (j*4+i) y=zpVs (ps.set j q):=by
  obtain⟨e2,e3⟩:ps=ps.take j++[p]++ps.drop (j+1)∧ps.set j q=ps.take j++[q]++ps.drop (j+1):=by
   have hj':=List.getElem?_eq_some_iff.1 hp;constructor
   ·conv=>lhs;rw [<- List.take_append_drop j ps,List.drop_eq_getElem_cons hj'.1,hj'.2]
    simp
   ·rw [List.set_eq_take_append_cons_drop,if_pos hj];simp
  have hl:(zpVs (ps.take j)).length=j*4:=by rw [zpVs_len,List.length_take];omega
  rw [e3]
  conv=>lhs;rw [e2]
  have hp4:(zpV p).length=4:=rfl;rw [zpVs_app,zpVs_app,zpVs_app,zpVs_app,List.append_assoc,List.append_assoc,List.set_append_right _ _ (by omega),hl,show j*4+i-j*4=i by omega];congr 1;have s1:zpVs [p]=zpV p:=by simp [zpVs]
  have s2:zpVs [q]=zpV q:=by simp [zpVs]
  rw [s1,s2,List.set_append_left _ _ (by omega),hz]
 have hst:=(h.1.stored (j*4+i) y).1;rw [e1] at hst;have far:∀ {r:Zp},r∈ps->(w.setCell ⟨g,j*4+i,none⟩ y).ownsRow B 9 1 r.2 r.1.da.length (r.1.da.map Value.string):=fun {r} hr=>own_far (h.2 r hr) (own_kindsZ (h.2 r hr) h.1 (by decide) g rfl)
 refine⟨by rw [List.length_set];exact hst,fun r hr=>?_⟩
 rcases List.mem_or_eq_of_mem_set hr with hr|rfl
 ·exact far hr
 ·exact hq _ (far (List.mem_of_getElem? hp))
theorem ZHas.app{w1:World}{v1:Value}{p:Zp}(h:ZHas w B v ps)(hp:p∈ps)(ho:w1.ownsRow B 53 4 v1 (ps.length+1) (zpVs ps++zpV p))(hg:w.grownBy w1 v.ownBlock):ZHas w1 B v1 (ps++[p]):=by
 have e:zpVs (ps++[p])=zpVs ps++zpV p:=by simp [zpVs]
 have far:∀ {r:Zp},r∈ps->w1.ownsRow B 9 1 r.2 r.1.da.length (r.1.da.map Value.string):=fun {r} hr=>own_besideZ (h.2 r hr) hg (own_kindsZ (h.2 r hr) h.1 (by decide))
 refine⟨by rw [e,List.length_append];exact ho,fun r hr=>?_⟩
 rcases List.mem_append.1 hr with hr|hr
 ·exact far hr
 ·rw [List.mem_singleton.1 hr];exact far hp
theorem own_like{W:World}{e s n:Nat}{xs:List Value}(h:w.ownsRow B e s v n xs)(hW:∀ b,B<=b->b<w.heap.size->W.heap[b]? =w.heap[b]?):W.ownsRow B e s v n xs:=by
 refine⟨h.1,?_⟩
 rcases h.2 with h0|⟨g',cap,cur,rfl,hb,hh,r⟩
 ·exact .inl h0
 ·refine .inr ⟨g',cap,cur,rfl,hb,?_,r⟩;rw [hW g' hb (Array.getElem?_eq_some_iff.1 hh).1];exact hh
theorem ZHas.kp(h:ZHas w B v ps):ZKp w B v ps:=fun W hW=>⟨CRow.of_owns (own_like h.1 hW),fun p hp=>Nm.SRow.of_owns (own_like (h.2 p hp) hW)⟩
theorem ZKp.zrow(h:ZKp w B v ps):ZRow w v ps:=h w (fun _ _ _=>rfl)
theorem ZKp.base{C:Nat}(h:ZKp w B v ps)(hC:C<=B):ZKp w C v ps:=fun W hW=>h W (fun b h1=>hW b (by omega))
theorem ZKp.far{g i:Nat}{y:Value}(h:ZKp w B v ps)(hg:g<B):ZKp (w.setCell ⟨g,i,none⟩ y) B v ps:=fun W hW=>h W (fun b h1 h2=>(hW b h1 (by simpa using h2)).trans (heap_setCell_other w ⟨g,i,none⟩ b y (by intro e;simp at e;omega)))
end
theorem zrow_tail{w:World}{b off cap:Nat}{p:Zp}{qs:List Zp}(h:ZRow w (.slice (some ⟨b,off,none⟩) (p::qs).length cap) (p::qs)):ZRow w (.slice (some ⟨b,off+4,none⟩) qs.length (cap-1)) qs:=by
 obtain⟨⟨_,a,c,e,h1,h2,h3⟩,hd⟩:=h;simp only [Value.slice.injEq] at e;obtain⟨rfl,-,rfl⟩:=e;obtain⟨b',off',e2,hc⟩:=h3 (by simp);simp only [Option.some.injEq,Addr.mk.injEq] at e2;obtain⟨rfl,rfl,-⟩:=e2;refine⟨⟨zpVs_len qs,_,_,rfl,by simp at h1;omega,by omega,fun _=>⟨b,off+4,rfl,fun i x hx=>?_⟩⟩,fun q hq=>hd q (List.mem_cons_of_mem _ hq)⟩;have:=hc (4+i) x (by rw [zpVs_cons,List.getElem?_append_right (by show 4<=_;omega)];simpa [zpV] using hx)
 rwa [<- Nat.add_assoc] at this
end Go.Proofs.YtfmolgdfjklmpaaGreat
