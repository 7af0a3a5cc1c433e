import Derived.Test.YtcihkbojmbfmmaaGreatDoorJShK
import Derived.Laws.OwnMore
import Derived.Test.YtcihkbojmbfmmaaGreatDoorJMath
import Derived.Test.YtcihkbojmbfmmaaGreatDoorJCzM
import Derived.Maps.AppendAt
namespace Go.Proofs.YtcihkbojmbfmmaaGreatDoor
open Go.RowKit
set_option linter.unusedVariables false
def bigL(v n:Nat):List UInt8:=(List.range n).map fun i=>UInt8.ofNat (v / 2 ^ (8*(n-1-i)))
def bigM(v n j:Nat):List Value:=(List.range n).map fun i=>if i<j then .int .u8 ((UInt8.ofNat (v / 2 ^ (8*(n-1-i)))).toNat:Int) else .int .u8 0
theorem bigM_zero(v n:Nat):bigM v n 0=List.replicate n (.int .u8 0):=by
 simp only [bigM,Nat.not_lt_zero,if_false];rw [List.map_const',List.length_range]
theorem bigM_all(v n:Nat):bigM v n n=Nm.bys (bigL v n):=by
 simp only [bigM,bigL,Nm.bys,List.map_map];apply List.map_congr_left;intro i hi;simp [List.mem_range.1 hi]
theorem bigM_set{v n j:Nat}(h:j<n):(bigM v n j).set j (.int .u8 ((UInt8.ofNat (v / 2 ^ (8*(n-1-j)))).toNat:Int))=bigM v n (j+1):=by
 apply List.ext_getElem?;intro i;rw [List.getElem?_set]
 by_cases hi:j=i
 ·subst hi;simp [bigM,h]
 ·rw [if_neg hi]
  by_cases hn:i<n
  ·simp only [bigM,List.getElem?_map,List.getElem?_range hn,Option.map_some]
   by_cases h1:i<j
   ·rw [if_pos h1,if_pos (by omega)]
   ·rw [if_neg h1,if_neg (by omega)]
  ·simp [bigM,hn]
set_option maxRecDepth 100000 in
set_option maxHeartbeats 1600000 in
theorem bigBytesN_any(v n:Nat)(w:World)(hv:v<=4611686018427387904)(hn1:1<=n)(hn:n<=8):
 Calls Tryz.prog 35 #[.int .i64 (v:Int),.int .i64 (n:Int)] w fun e w'=>e=.returned (.string ⟨(bigL v n).toArray⟩)∧Below w.heap.size w w':=by
 obtain⟨i0,hi,hz0,hz1,hz2⟩:=info_parts Tryz.infoBy;obtain⟨wm,hmk,hownm,hgrm⟩:=run_make_full (P:=Tryz.prog) w w.heap.size 26 5 i0 (.int .u8 0) 1 Tryz.underlying26 hi hz0 hz1 .i64 .i64 n (by rw [hz2];omega) (by unfold maxLen;omega) (Nat.le_refl _);have hbelm:Below w.heap.size w wm:=(Below.refl _ _).grown hgrm (Nat.le_refl _) (by simp)
 have hz4:(madeCells (Value.int .u8 0).cells (n*1)).toList=bigM v n 0:=by
  rw [bigM_zero]
  match n,hn1,hn with
  |1,_,_|2,_,_|3,_,_|4,_,_|5,_,_|6,_,_|7,_,_|8,_,_=>first|rfl|(show _=_;kernel_rfl)
 rw [hz4] at hownm;clear hgrm hz4;go_enter Tryz.func35,Tryz.ntmps35;go_wp2
 go_loopw [11] (fun i wr=>∃ j:Nat,j<=n∧i=.int .i64 (j:Int)∧wr.ownsRow w.heap.size 5 1 (.slice (some ⟨w.heap.size,0,none⟩) n n) n (bigM v n j)∧Below w.heap.size w wr) (fun i _=>(n-intOf i).toNat)
 case atStart=>exact⟨0,by omega,rfl,hownm,hbelm⟩
 case round=>
  obtain⟨j,hj,rfl,hown,hbel⟩:=hrel;clear hownm hbelm hmk
  by_cases hlt:j<n
  ·have i1:(0:Int)<=(j:Int):=by omega
   have i2:(j:Int)<(n:Int):=by omega
   have i3:(n:Int)<=8:=by omega
   obtain⟨x,hx⟩:∃ x,(bigM v n j)[j]? =some x:=by simp [bigM,hlt]
   have hc:wr.cell? ⟨w.heap.size,j,none⟩=some x:=(hown.cellAt j (by omega)).trans hx;have hfz:=hown.frozenAt j;have hst:=(hown.stored j (.int .u8 ((UInt8.ofNat (v / 2 ^ (8*(n-1-j)))).toNat:Int))).1;rw [bigM_set hlt] at hst;have hB2:=hbel.setCell (p:=⟨w.heap.size,j,none⟩) (Nat.le_refl _) (.int .u8 ((UInt8.ofNat (v / 2 ^ (8*(n-1-j)))).toNat:Int));clear hown hbel hx;go_wp2
   rw [show((v:Int) / 2 ^ (8*(n-1-j)) % 256)=((UInt8.ofNat (v / 2 ^ (8*(n-1-j)))).toNat:Int) by
    rw [UInt8.toNat_ofNat',Int.natCast_emod,Int.natCast_ediv,Int.natCast_pow]
    rfl]
   go_roundw
   case rel=>exact⟨j+1,by omega,by go_num,hst,hB2⟩
   case measure=>simp [intOf];omega
  ·obtain rfl:j=n:=by omega
   rw [bigM_all] at hown;have HC:=Nm.conv_own (P:=Tryz.prog) (src:=26) (dst:=9) Tryz.underlying26 Tryz.underlying5 Tryz.underlying9 hown (by omega);obtain⟨g,cap,hv',hcv⟩:=HC;cases hv'
   go_wp2;go_ret;exact⟨rfl,hbel⟩
theorem bigL_len(v n:Nat):(bigL v n).length=n:=by simp [bigL]
theorem bigL_take{v n j:Nat}(h:j<n):Nm.bys ((bigL v n).take (j+1))=Nm.bys ((bigL v n).take j)++[.int .u8 ((v:Int) / 2 ^ (8*(n-1-j)) % 256)]:=by
 have hx:(bigL v n)[j]? =some (UInt8.ofNat (v / 2 ^ (8*(n-1-j)))):=by simp [bigL,h]
 have e:((UInt8.ofNat (v / 2 ^ (8*(n-1-j)))).toNat:Int)=(v:Int) / 2 ^ (8*(n-1-j)) % 256:=by
  rw [UInt8.toNat_ofNat',Int.natCast_emod,Int.natCast_ediv,Int.natCast_pow];rfl
 rw [List.take_add_one,hx,Nm.bys_append,<- e];rfl
set_option maxRecDepth 100000 in
set_option maxHeartbeats 1600000 in
theorem l02PutN_any(v n:Nat)(w:World)(hv:v<=4611686018427387904)(hn1:1<=n)(hn:n<=8):
 Calls Tryz.prog 28 #[.int .i64 (v:Int),.int .i64 (n:Int)] w fun e w'=>e=.returned (.string ⟨(bigL v n).toArray⟩)∧Below w.heap.size w w':=by
 obtain⟨j0,hj,k0,k1,k2⟩:=info_parts Tryz.infoBy;have i3:(n:Int)<=8:=by omega
 have i4:(1:Int)<=(n:Int):=by omega
 have hro:=World.ownsRow_made (base:=w.heap.size) (size:=1) (e:=5) w #[] 0 (Nat.le_refl _) (by decide) rfl;have hBs:=(Below.refl w.heap.size w).alloc (Nat.le_refl _) (.cells #[] 5);go_enter Tryz.func28,Tryz.ntmps28;go_wp2
 go_loopw [5,6] (fun u i wr=>∃ j:Nat,j<=n∧i=.int .i64 ((n:Int)-1-(j:Int))∧wr.ownsRow w.heap.size 5 1 u j (Nm.bys ((bigL v n).take j))∧Below w.heap.size w wr) (fun _ i _=>(intOf i+1).toNat)
 case atStart=>exact⟨0,by omega,by congr 1;omega,hro,hBs⟩
 case round=>
  clear hro hBs;obtain⟨j,hj8,rfl,hown,hbel⟩:=hrel;obtain⟨xa,xc,rfl⟩:=own_sl hown;have hBr:=hbel.size
  by_cases hlt:j<n
  ·obtain⟨i,hi⟩:∃ i:Nat,(n:Int)-1-(j:Int)=(i:Int):=⟨n-1-j,by omega⟩;have hi7:i<=7:=by omega
   rw [hi];have i1:(0:Int)<=(i:Int):=by omega
   have i2:(i:Int)<=7:=by omega
   have HT:=Nm.hide (show Nm.bys ((bigL v n).take (j+1))=Nm.bys ((bigL v n).take j)++[.int .u8 ((v:Int) / 2 ^ (8*i) % 256)] by
    have h7:n-1-j=i:=by omega
    rw [bigL_take hlt,h7])
   have HI:=Nm.hide hi;clear hi;go_wp2_with (at_builtin;refine wpList_append_own _ rfl (.tmp 14) (.tmp 21) 26 rfl w.heap.size 5 j0 (.int .u8 0) 1 1 Tryz.underlying26 hj k0 k1 k2 rfl (by decide) _ _ _ rfl (hown.alloc _) ⟨wr.heap.size,0,none⟩ 1 1 [.int .u8 ((v:Int) / 2 ^ (8*i) % 256)] rfl rfl (cell_one_new _ _ _) (Nm.one_cell _ rfl) (by unfold maxLen;omega) (by omega) (by simp;omega) ?_;intro vb wb hown8 hgrow8 hnl8;clear hnl8)
   rw [<- HT.out] at hown8;have hrow:∀ q,Value.ownBlock (.slice xa j xc)=some q->w.heap.size<=q:=fun q hq=>(hown.lt q hq).1
   have hB8:Below w.heap.size w wb:=(hbel.alloc hBr _).grown hgrow8 (by rw [World.size_alloc];omega) hrow;obtain⟨za,zc,rfl⟩:=own_sl hown8;clear hgrow8 hown hbel;have hi:=HI.out;go_roundw
   case rel=>exact⟨j+1,by omega,by go_num,hown8,hB8⟩
   case measure=>simp [intOf]
  ·obtain rfl:j=n:=by omega
   rw [List.take_of_length_le (by rw [bigL_len];omega)] at hown;have HC:=Nm.conv_own (P:=Tryz.prog) (src:=26) (dst:=9) Tryz.underlying26 Tryz.underlying5 Tryz.underlying9 hown (by omega);obtain⟨g,cap,hv',hcv⟩:=HC;cases hv'
   have hneg:¬(0:Int)<=(j:Int)-1-(j:Int):=by omega
   go_wp2;go_ret;exact⟨rfl,hbel⟩
def ouA(l:List UInt8)(i:Nat):Array Value:=((List.range 32).map fun j=>if j<i then .int .u8 (((l[j]?).getD 0).toNat:Int) else .int .u8 0).toArray
theorem ouA_zero(l:List UInt8):ouA l 0=Array.replicate 32 (.int .u8 0):=by
 simp only [ouA,Nat.not_lt_zero,if_false];rfl
theorem ouA_any{l:List UInt8}{i j:Nat}(hj:j<32):∃ v,(ouA l i)[j]? =some v:=by simp [ouA,hj]
theorem ouA_set{l:List UInt8}{i:Nat}(h:i<32):(ouA l i).setIfInBounds i (.int .u8 (((l[i]?).getD 0).toNat:Int))=ouA l (i+1):=by
 apply Array.ext_getElem?;intro j;rw [Array.getElem?_setIfInBounds]
 by_cases hj:i=j
 ·subst hj;simp [ouA,h]
 ·rw [if_neg hj]
  by_cases hj32:j<32
  ·simp only [ouA,List.getElem?_toArray,List.getElem?_map,List.getElem?_range hj32,Option.map_some]
   by_cases h1:j<i
   ·rw [if_pos h1,if_pos (by omega)]
   ·rw [if_neg h1,if_neg (by omega)]
  ·simp [ouA,hj32]
theorem outL_len(s:Sv):(outL s).length=32:=rfl
theorem ouA_all(s:Sv):ouA (outL s) 32=((outL s).map fun c=>Value.int .u8 (c.toNat:Int)).toArray:=rfl
def byA(l:List UInt8):Array Value:=(l.map fun c=>Value.int .u8 (c.toNat:Int)).toArray
theorem byA_size(l:List UInt8):(byA l).size=l.length:=by simp [byA]
theorem byA_one(l:List UInt8):(byA l).all (·.oneCell')=true:=Array.all_eq_true_iff_forall_mem.2 (fun v hv=>by
 simp only [byA,List.mem_toArray,List.mem_map] at hv;obtain⟨c,_,rfl⟩:=hv
 rfl)
theorem ouA_byA(s:Sv):ouA (outL s) 32=byA (outL s):=ouA_all s
theorem all_rep8(n:Nat):(Array.replicate n (Value.int .u8 0)).all (·.oneCell')=true:=Array.all_eq_true_iff_forall_mem.2 (fun v hv=>by rw [(Array.mem_replicate.1 hv).2];rfl)
theorem outL_at(s:Sv){k:Nat}(h:k<32):((outL s)[k]?).getD 0=UInt8.ofNat ((((svL s)[k / 4]?).getD 0).toNat / 2 ^ (24-8*(k % 4))):=by
 match k,h with
 |0,_|1,_|2,_|3,_|4,_|5,_|6,_|7,_|8,_|9,_|10,_|11,_|12,_|13,_|14,_|15,_|16,_|17,_|18,_|19,_|20,_|21,_|22,_|23,_|24,_|25,_|26,_|27,_|28,_|29,_|30,_|31,_=>simp [outL,svL]
 |n+32,h=>exact absurd h (by omega)
theorem hvA_at8(h:Sv){j:Nat}(hj:j<8):(hvA h)[j]? =some (.int .u32 ((((svL h)[j]?).getD 0).toNat:Int)):=by
 match j,hj with
 |0,_|1,_|2,_|3,_|4,_|5,_|6,_|7,_=>rfl
set_option maxRecDepth 1000000 in
set_option maxHeartbeats 16000000 in
theorem sha_bytes(p6 p23:Nat)(hne:p6≠p23)(h:Sv)(Q0:Exit->Act->World->Prop)(w:World)(k6:Blk w p6 (hvA h) 126)(k23:Blk w p23 (ouA (outL h) 0) 86)
 (s0 s1 s2 s3 s4 s5 s7 s8 s9 s10 s11 s12 s13 s14 s15 s16 s17 s18 s19 s20 s21 s22 s25 s26 s27 s28 s29 s30 s31 s32 s33 s34 s35 s36 s37 s38 s39 s40 s41 s42 s43 s44 s45 s46 s47 s48 s49 s50 s51 s52 s53 s54 s55 s56 s57 s58 s59 s60 s61 s62 s63 s64 s65 s66 s67 s68 s69 s70 s71 s72 s73 s74 s75 s76 s77 s78 s79 s80 s81 s82 s83 s84 s85 s86 s87 s88 s89 s90 s91 s92 s93 s94 s95 s96 s97 s98 s99 s100 s101 s102 s103 s104 s105 s106 s107 s108 s109 s110 s111 s112 s113 s114 s115 s116 s117 s118 s119 s120 s121 s122 s123 s124 s125 s126 s127 s128 s129 s130 s131 s132 s133 s134 s135 s136 s137 s138 s139 s140 s141 s142 s143 s144 s145 s146 s147 s148 s149 s150 s151 s152 s153 s154 s155 s156 s157 s158 s159 s160 s161 s162 s163 s164 s165 s166 s167 s168 s169 s170 s171 s172 s173 s174 s175 s176 s177 s178 s179 s180 s181 s182 s183 s184 s185 s186 s187 s188 s189 s190 s191 s192 s193 s194 s195 s196 s197 s198 s199 s200 s201 s202 s203 s204 s205 s206 s207 s208 s209 s210 s211 s212 s213 s214 s215 s216 s217 s218 s219 s220 s221 s222 s223 s224 s225 s226 s227 s228 s229 s230 s231 s232 s233 s234 s235 s236 s237 s238 s239 s240 s241 s242 s243 s244 s245 s246 s247 s248 s249 s250 s251 s252 s253 s254 s255 s256 s257 s258 s259 s260 s261 s262 s263 s264 s265 s266:Value)
 (hexit:∀ (u24 u249 u250 u251 u252 u253 u254 u255 u256 u257 u258 u259 u260 u261 u262 u263 u264 u265:Value) (w':World),Blk w' p23 (ouA (outL h) 32) 86∧Only p23 w w'->Q0 (.exit 14) ⟨(s0::s1::s2::s3::s4::s5::.pointer (some ⟨p6,0,none⟩)::s7::s8::s9::s10::s11::s12::s13::s14::s15::s16::s17::s18::s19::s20::s21::s22::.pointer (some ⟨p23,0,none⟩)::u24::s25::s26::s27::s28::s29::s30::s31::s32::s33::s34::s35::s36::s37::s38::s39::s40::s41::s42::s43::s44::s45::s46::s47::s48::s49::s50::s51::s52::s53::s54::s55::s56::s57::s58::s59::s60::s61::s62::s63::s64::s65::s66::s67::s68::s69::s70::s71::s72::s73::s74::s75::s76::s77::s78::s79::s80::s81::s82::s83::s84::s85::s86::s87::s88::s89::s90::s91::s92::s93::s94::s95::s96::s97::s98::s99::s100::s101::s102::s103::s104::s105::s106::s107::s108::s109::s110::s111::s112::s113::s114::s115::s116::s117::s118::s119::s120::s121::s122::s123::s124::s125::s126::s127::s128::s129::s130::s131::s132::s133::s134::s135::s136::s137::s138::s139::s140::s141::s142::s143::s144::s145::s146::s147::s148::s149::s150::s151::s152::s153::s154::s155::s156::s157::s158::s159::s160::s161::s162::s163::s164::s165::s166::s167::s168::s169::s170::s171::s172::s173::s174::s175::s176::s177::s178::s179::s180::s181::s182::s183::s184::s185::s186::s187::s188::s189::s190::s191::s192::s193::s194::s195::s196::s197::s198::s199::s200::s201::s202::s203::s204::s205::s206::s207::s208::s209::s210::s211::s212::s213::s214::s215::s216::s217::s218::s219::s220::s221::s222::s223::s224::s225::s226::s227::s228::s229::s230::s231::s232::s233::s234::s235::s236::s237::s238::s239::s240::s241::s242::s243::s244::s245::s246::s247::s248::u249::u250::u251::u252::u253::u254::u255::u256::u257::u258::u259::u260::u261::u262::u263::u264::u265::s266::[]).toArray,[]⟩ w'):
 Code.wp Tryz.prog (Code.loop shL8) Q0 ⟨(s0::s1::s2::s3::s4::s5::.pointer (some ⟨p6,0,none⟩)::s7::s8::s9::s10::s11::s12::s13::s14::s15::s16::s17::s18::s19::s20::s21::s22::.pointer (some ⟨p23,0,none⟩)::.int .i64 0::s25::s26::s27::s28::s29::s30::s31::s32::s33::s34::s35::s36::s37::s38::s39::s40::s41::s42::s43::s44::s45::s46::s47::s48::s49::s50::s51::s52::s53::s54::s55::s56::s57::s58::s59::s60::s61::s62::s63::s64::s65::s66::s67::s68::s69::s70::s71::s72::s73::s74::s75::s76::s77::s78::s79::s80::s81::s82::s83::s84::s85::s86::s87::s88::s89::s90::s91::s92::s93::s94::s95::s96::s97::s98::s99::s100::s101::s102::s103::s104::s105::s106::s107::s108::s109::s110::s111::s112::s113::s114::s115::s116::s117::s118::s119::s120::s121::s122::s123::s124::s125::s126::s127::s128::s129::s130::s131::s132::s133::s134::s135::s136::s137::s138::s139::s140::s141::s142::s143::s144::s145::s146::s147::s148::s149::s150::s151::s152::s153::s154::s155::s156::s157::s158::s159::s160::s161::s162::s163::s164::s165::s166::s167::s168::s169::s170::s171::s172::s173::s174::s175::s176::s177::s178::s179::s180::s181::s182::s183::s184::s185::s186::s187::s188::s189::s190::s191::s192::s193::s194::s195::s196::s197::s198::s199::s200::s201::s202::s203::s204::s205::s206::s207::s208::s209::s210::s211::s212::s213::s214::s215::s216::s217::s218::s219::s220::s221::s222::s223::s224::s225::s226::s227::s228::s229::s230::s231::s232::s233::s234::s235::s236::s237::s238::s239::s240::s241::s242::s243::s244::s245::s246::s247::s248::s249::s250::s251::s252::s253::s254::s255::s256::s257::s258::s259::s260::s261::s262::s263::s264::s265::s266::[]).toArray,[]⟩ w:=by
 conv=>arg 2;arg 1;whnf
 go_loopw [24] (fun i wr=>∃ k:Nat,k<=32∧i=.int .i64 k∧Blk wr p23 (ouA (outL h) k) 86∧Only p23 w wr) (fun i _=>32-(intOf i).toNat)
 case atStart=>exact⟨0,by omega,rfl,k23,Only.refl _ _⟩
 case round=>
  obtain⟨k,hk,rfl,kk,hO⟩:=hrel;have kh:=hO.blk k6 hne;clear k6 k23
  by_cases hlt:k<32
  ·have c6:=(blk_cell kh (k / 4)).trans (hvA_at8 h (by omega));obtain⟨v23,hv⟩:=ouA_any (l:=outL h) (i:=k) hlt;have c23:=(blk_cell kk k).trans hv;have f23:=blk_frozen kk k;have HL:=Nm.hide (outL_at h hlt)
   have kS:=Nm.hide (show Blk (wr.setCell ⟨p23,k,none⟩ (.int .u8 ((((outL h)[k]?).getD 0).toNat:Int))) p23 (ouA (outL h) (k+1)) 86 by
    have e:=blk_set kk k (.int .u8 ((((outL h)[k]?).getD 0).toNat:Int));rw [ouA_set hlt] at e
    exact e)
   have hOS:=Nm.hide (hO.set (i:=k) (v:=.int .u8 ((((outL h)[k]?).getD 0).toNat:Int)));have i1:(0:Int)<=(k:Int):=by omega
   have i2:(k:Int)<32:=by omega
   clear hexit hv;generalize ((svL h)[k / 4]?).getD 0=x at*;go_wp2
   rw [show((x.toNat:Int) / 2 ^ (24-8*(k % 4)) % 256)=((((outL h)[k]?).getD 0).toNat:Int) by
    rw [HL.out,UInt8.toNat_ofNat'];rw [Int.natCast_emod,Int.natCast_ediv,Int.natCast_pow]
    rfl]
   go_roundw
   case rel=>exact⟨k+1,by omega,by go_num,kS.out,hOS.out⟩
   case measure=>simp [intOf];omega
  ·obtain rfl:k=32:=by omega
   go_wp2;exact⟨kk,hO⟩
def rcP(r:Rr):List UInt8:=r.own.data.toList++(bigL r.ty.toNat 2++bigL r.cl.toNat 2++bigL r.tt.toNat 4++bigL r.da.size 2)++r.da.data.toList
def rcsP(xs:List Rr):List UInt8:=xs.flatMap rcP
def zonP(o:ByteArray)(xs:List Rr):List UInt8:=[90]++bigL xs.length 2++o.data.toList++rcsP xs
def frmP(l:List UInt8):List UInt8:=bigL l.length 4++l++(shaL l).take 4
def RcF(r:Rr):Prop:=r.own.size<=1048576∧r.da.size<=1048576∧(0<=r.ty∧r.ty<=4294967295)∧(0<=r.cl∧r.cl<=4294967295)∧(0<=r.tt∧r.tt<=4294967295)
theorem rcP_len(r:Rr):(rcP r).length=r.own.size+10+r.da.size:=by
 simp [rcP,bigL_len]
 omega
theorem rcsP_step{xs:List Rr}{k:Nat}{r:Rr}(h:xs[k]? =some r):rcsP (xs.take (k+1))=rcsP (xs.take k)++rcP r:=by
 rw [List.take_add_one,h];simp [rcsP]
theorem rcsP_mono{xs:List Rr}{k:Nat}:(rcsP (xs.take k)).length<=(rcsP xs).length:=by
 have h2:rcsP xs=rcsP (xs.take k)++rcsP (xs.drop k):=by
  conv=>lhs;rw [<- List.take_append_drop k xs]
  simp only [rcsP,List.flatMap_append]
 rw [h2,List.length_append];omega
theorem byte_of(l:List UInt8)(k:Nat)(c:UInt8)(hk:l[k]? =some c)(W:World):(Instr.index 9 (.string ⟨l.toArray⟩) (.int .i64 (k:Int))).run Tryz.prog W=.ok (.int .u8 (c.toNat:Int)) W:=by
 obtain⟨hlt,he⟩:=List.getElem?_eq_some_iff.1 hk;have hs:k<(ByteArray.mk l.toArray).size:=by show k<l.toArray.size;simpa using hlt
 rw [run_index_string W 9 ⟨l.toArray⟩ .i64 (k:Int) Tryz.underlying9];have e:(ByteArray.mk l.toArray)[k]'hs=c:=by rw [<- he];simp [ByteArray.getElem_eq_getElem_data]
 simp [hs,e]
end Go.Proofs.YtcihkbojmbfmmaaGreatDoor
namespace Go.Proofs.YtcihkbojmbfmmaaGreatDoor
open Go.RowKit
end Go.Proofs.YtcihkbojmbfmmaaGreatDoor
namespace Go.Proofs.YtcihkbojmbfmmaaGreatDoor
open Go.RowKit
set_option linter.unusedVariables false
theorem ba_cat(a b:List UInt8):(ByteArray.mk a.toArray)++(ByteArray.mk b.toArray)=⟨(a++b).toArray⟩:=by
 apply ByteArray.ext;simp
theorem ba_size(a:List UInt8):(ByteArray.mk a.toArray).size=a.length:=by show a.toArray.size=_;simp
theorem ba_mk(s:ByteArray):(ByteArray.mk s.data.toList.toArray)=s:=by
 apply ByteArray.ext;simp
theorem sj_cat(x y:List UInt8)(X Y:ByteArray)(hX:X=⟨x.toArray⟩)(hY:Y=⟨y.toArray⟩)(hb:x.length+y.length<=100000000):∃ C,(∀ W,(Go.Op.stringOp .add X Y).run Tryz.prog W=.ok (.string C) W)∧C=⟨(x++y).toArray⟩:=by
 subst hX;subst hY;refine⟨_,fun W=>run_string_add_sum W _ _ (by rw [ba_size,ba_size];omega),ba_cat x y⟩
theorem sj_parts(r:Rr)(h:RcF r):∃ (ty cl tt:Nat) (P1 P2 P3 P4:ByteArray),r.ty=(ty:Int)∧r.cl=(cl:Int)∧r.tt=(tt:Int)∧ty<=4294967295∧cl<=4294967295∧tt<=4294967295∧
 P1=⟨(bigL ty 2).toArray⟩∧P2=⟨(bigL cl 2).toArray⟩∧P3=⟨(bigL tt 4).toArray⟩∧P4=⟨(bigL r.da.size 2).toArray⟩∧rcP r=r.own.data.toList++(bigL ty 2++bigL cl 2++bigL tt 4++bigL r.da.size 2)++r.da.data.toList:=by
 obtain⟨h1,h2,⟨h3,h4⟩,⟨h5,h6⟩,h7,h8⟩:=h;exact⟨r.ty.toNat,r.cl.toNat,r.tt.toNat,_,_,_,_,by omega,by omega,by omega,by omega,by omega,by omega,rfl,rfl,rfl,rfl,rfl⟩
set_option maxRecDepth 100000 in
set_option maxHeartbeats 3200000 in
theorem l12Record_any(r:Rr)(w:World)(h:RcF r):
 Calls Tryz.prog 56 #[.agg #[.string r.own,.int .i64 r.ty,.int .i64 r.cl,.int .i64 r.tt,.string r.da]] w fun e w'=>e=.returned (.string ⟨(rcP r).toArray⟩)∧Below w.heap.size w w':=by
 obtain⟨ty,cl,tt,P1,P2,P3,P4,e1,e2,e3,l1,l2,l3,eP1,eP2,eP3,eP4,eR⟩:=sj_parts r h;obtain⟨ho,hd,-⟩:=h;have p1:∀ W,Calls Tryz.prog 28 #[.int .i64 (ty:Int),.int .i64 2] W fun e w'=>e=.returned (.string P1)∧Below W.heap.size W w':=fun W=>by rw [eP1];exact l02PutN_any ty 2 W (by omega) (by decide) (by decide)
 have p2:∀ W,Calls Tryz.prog 28 #[.int .i64 (cl:Int),.int .i64 2] W fun e w'=>e=.returned (.string P2)∧Below W.heap.size W w':=fun W=>by rw [eP2];exact l02PutN_any cl 2 W (by omega) (by decide) (by decide)
 have p3:∀ W,Calls Tryz.prog 28 #[.int .i64 (tt:Int),.int .i64 4] W fun e w'=>e=.returned (.string P3)∧Below W.heap.size W w':=fun W=>by rw [eP3];exact l02PutN_any tt 4 W (by omega) (by decide) (by decide)
 have p4:∀ W,Calls Tryz.prog 28 #[.int .i64 (r.da.size:Int),.int .i64 2] W fun e w'=>e=.returned (.string P4)∧Below W.heap.size W w':=fun W=>by rw [eP4];exact l02PutN_any r.da.size 2 W (by omega) (by decide) (by decide)
 have lo:r.own.data.toList.length=r.own.size:=by simp
 have ld:r.da.data.toList.length=r.da.size:=by simp
 obtain⟨C1,q1,c1⟩:=sj_cat _ _ r.own P1 (ba_mk r.own).symm eP1 (by rw [lo,bigL_len];omega);obtain⟨C2,q2,c2⟩:=sj_cat _ _ C1 P2 c1 eP2 (by rw [List.length_append,lo,bigL_len,bigL_len];omega);obtain⟨C3,q3,c3⟩:=sj_cat _ _ C2 P3 c2 eP3 (by simp only [List.length_append,lo,bigL_len];omega);obtain⟨C4,q4,c4⟩:=sj_cat _ _ C3 P4 c3 eP4 (by simp only [List.length_append,lo,bigL_len];omega);obtain⟨C5,q5,c5⟩:=sj_cat _ _ C4 r.da c4 (ba_mk r.da).symm (by simp only [List.length_append,lo,ld,bigL_len];omega)
 have HE:Hid ((⟨(rcP r).toArray⟩:ByteArray)=C5):=by
  show _=_
  rw [c5,eR];simp only [List.append_assoc]
 rw [HE.out,e1,e2,e3];clear eP1 eP2 eP3 eP4 c1 c2 c3 c4 c5 eR e1 e2 e3 lo ld;obtain⟨ow,_,_,_,da⟩:=r;simp only at p4 q1 q5 ho hd
 have kR:=blk_new w #[.string ow,.int .i64 (ty:Int),.int .i64 (cl:Int),.int .i64 (tt:Int),.string da] 73;have hb:=(Below.refl w.heap.size w).alloc (Nat.le_refl _) (.cells #[.string ow,.int .i64 (ty:Int),.int .i64 (cl:Int),.int .i64 (tt:Int),.string da] 73);go_enter Tryz.func56,Tryz.ntmps56;go_wp2;generalize w.alloc (.cells #[.string ow,.int .i64 (ty:Int),.int .i64 (cl:Int),.int .i64 (tt:Int),.string da] 73)=X at*;refine wp_region_last (S:=fun W=>Blk W w.heap.size #[.string ow,.int .i64 (ty:Int),.int .i64 (cl:Int),.int .i64 (tt:Int),.string da] 73) (L:=1000) (by kernel_rfl) kR (fun hH=>?_);refine tkL (i:=0) (v:=?_) rfl ?_ ?_;rotate_left 1
 ·(intro W s1;have ss1:=(fun i=>blk_cell s1 i);go_simp;try (with_reducible rfl))
 refine tkL (i:=1) (v:=?_) rfl ?_ ?_;rotate_left 1
 ·(intro W s1;have ss1:=(fun i=>blk_cell s1 i);go_simp;try (with_reducible rfl))
 refine tkL (i:=2) (v:=?_) rfl ?_ ?_;rotate_left 1
 ·(intro W s1;have ss1:=(fun i=>blk_cell s1 i);go_simp;try (with_reducible rfl))
 refine tkL (i:=3) (v:=?_) rfl ?_ ?_;rotate_left 1
 ·(intro W s1;have ss1:=(fun i=>blk_cell s1 i);go_simp;try (with_reducible rfl))
 refine tkL (i:=6) (v:=?_) rfl ?_ ?_;rotate_left 1
 ·(intro W s1;have ss1:=(fun i=>blk_cell s1 i);go_simp;try (with_reducible rfl))
 refine tkL (i:=7) (v:=?_) rfl ?_ ?_;rotate_left 1
 ·(intro W s1;have ss1:=(fun i=>blk_cell s1 i);go_simp;try (with_reducible rfl))
 refine tkL (i:=10) (v:=?_) rfl ?_ ?_;rotate_left 1
 ·(intro W s1;have ss1:=(fun i=>blk_cell s1 i);go_simp;try (with_reducible rfl))
 refine tkL (i:=11) (v:=?_) rfl ?_ ?_;rotate_left 1
 ·(intro W s1;have ss1:=(fun i=>blk_cell s1 i);go_simp;try (with_reducible rfl))
 refine tkL (i:=14) (v:=?_) rfl ?_ ?_;rotate_left 1
 ·(intro W s1;have ss1:=(fun i=>blk_cell s1 i);go_simp;try (with_reducible rfl))
 refine tkL (i:=15) (v:=?_) rfl ?_ ?_;rotate_left 1
 ·(intro W s1;have ss1:=(fun i=>blk_cell s1 i);go_simp;try (with_reducible rfl))
 refine tkL (i:=16) (v:=?_) rfl ?_ ?_;rotate_left 1
 ·(intro W s1;have ss1:=(fun i=>blk_cell s1 i);go_simp;try (with_reducible rfl))
 refine tkL (i:=19) (v:=?_) rfl ?_ ?_;rotate_left 1
 ·(intro W s1;have ss1:=(fun i=>blk_cell s1 i);go_simp;try (with_reducible rfl))
 refine tkL (i:=20) (v:=?_) rfl ?_ ?_;rotate_left 1
 ·(intro W s1;have ss1:=(fun i=>blk_cell s1 i);go_simp;try (with_reducible rfl))
 refine wpAnyL_one (i:=4) (by kernel_rfl) rfl (fun K hK'=>?_);go_simp;refine(p1 _).mono ?_;rintro e X1 ⟨rfl,b1⟩;have b2:Below (X).heap.size X X1:=by first|with_reducible exact b1|exact(Below.refl _ X).drew.trans b1
 have kR1:=blk_below kR b2;have hb1:=Nm.below_two hb b2;clear b1 b2 kR hb;go_wp2_with fail
 refine hK'.out _ _ kR1 (fun hH=>?_);clear hK' K;have kR:=kR1;have hb:=hb1;clear kR1 hb1;refine tkL (i:=5) (v:=?_) rfl ?_ ?_;rotate_left 1
 ·(intro W s1;have ss1:=(fun i=>blk_cell s1 i);go_simp;try (with_reducible rfl))
 refine wpAnyL_one (i:=8) (by kernel_rfl) rfl (fun K hK'=>?_);go_simp;refine(p2 _).mono ?_;rintro e X2 ⟨rfl,b1⟩;have b2:Below (X1).heap.size X1 X2:=by first|with_reducible exact b1|exact(Below.refl _ X1).drew.trans b1
 have kR1:=blk_below kR b2;have hb1:=Nm.below_two hb b2;clear b1 b2 kR hb;go_wp2_with fail
 refine hK'.out _ _ kR1 (fun hH=>?_);clear hK' K;have kR:=kR1;have hb:=hb1;clear kR1 hb1;refine tkL (i:=9) (v:=?_) rfl ?_ ?_;rotate_left 1
 ·(intro W s1;have ss1:=(fun i=>blk_cell s1 i);go_simp;try (with_reducible rfl))
 refine wpAnyL_one (i:=12) (by kernel_rfl) rfl (fun K hK'=>?_);go_simp;refine(p3 _).mono ?_;rintro e X3 ⟨rfl,b1⟩;have b2:Below (X2).heap.size X2 X3:=by first|with_reducible exact b1|exact(Below.refl _ X2).drew.trans b1
 have kR1:=blk_below kR b2;have hb1:=Nm.below_two hb b2;clear b1 b2 kR hb;go_wp2_with fail
 refine hK'.out _ _ kR1 (fun hH=>?_);clear hK' K;have kR:=kR1;have hb:=hb1;clear kR1 hb1;refine tkL (i:=13) (v:=?_) rfl ?_ ?_;rotate_left 1
 ·(intro W s1;have ss1:=(fun i=>blk_cell s1 i);go_simp;try (with_reducible rfl))
 refine wpAnyL_one (i:=17) (by kernel_rfl) rfl (fun K hK'=>?_);go_simp;refine(p4 _).mono ?_;rintro e X4 ⟨rfl,b1⟩;have b2:Below (X3).heap.size X3 X4:=by first|with_reducible exact b1|exact(Below.refl _ X3).drew.trans b1
 have kR1:=blk_below kR b2;have hb1:=Nm.below_two hb b2;clear b1 b2 kR hb;go_wp2_with fail
 refine hK'.out _ _ kR1 (fun hH=>?_);clear hK' K;have kR:=kR1;have hb:=hb1;clear kR1 hb1;refine tkL (i:=18) (v:=?_) rfl ?_ ?_;rotate_left 1
 ·(intro W s1;have ss1:=(fun i=>blk_cell s1 i);go_simp;try (with_reducible rfl))
 refine tkL (i:=21) (v:=?_) rfl ?_ ?_;rotate_left 1
 ·(intro W s1;have ss1:=(fun i=>blk_cell s1 i);go_simp;try (with_reducible rfl))
 refine tkL (i:=22) (v:=?_) rfl ?_ ?_;rotate_left 1
 ·(intro W s1;have ss1:=(fun i=>blk_cell s1 i);go_simp;try (with_reducible rfl))
 refine wpAnyL_done (by kernel_rfl) ?_;clear hH;go_simp;go_wp2;go_ret;exact⟨rfl,hb⟩
end Go.Proofs.YtcihkbojmbfmmaaGreatDoor
