import Derived.Test.YtahpiciofdfipaaGreatJNqM
import Derived.Test.YtahpiciofdfipaaGreatJOwnT
import Derived.Test.YtahpiciofdfipaaGreatFnR
import Derived.Test.YtahpiciofdfipaaGreatCzO
namespace Go.Proofs.YtahpiciofdfipaaGreat
open Go.RowKit
set_option linter.unusedVariables false
theorem amg_no{l:List ByteArray}{name:ByteArray}(h:∀ i x,i<l.length->l[i]? =some x->sameS x name=false):amg l name=false:=by
 rw [amg,List.any_eq_false];intro x hx;obtain⟨i,hi⟩:=List.getElem?_of_mem hx;rw [h i x (List.getElem?_eq_some_iff.1 hi).1 hi];simp
set_option maxRecDepth 100000 in
set_option maxHeartbeats 800000 in
theorem lwAmong_any(v:Value)(ls:List ByteArray)(name:ByteArray)(w:World)(h:Nm.SRow w v ls)(hx:∀ x∈ls,x.size<=maxLen)(hn:name.size<=maxLen):
 Calls Tryz.prog 9 #[v,.string name] w fun e w'=>e=.returned (.bool (amg ls name))∧Below w.heap.size w w':=by
 have h0:=h;obtain⟨va,vc,rfl,hcap,hmx,-,-⟩:=h0;have HS:=Nm.hide (fun(x:ByteArray) (hx:x.size<=maxLen) W=>specSameName_any x name W hx hn);have HZ:=Nm.hide (fun W (hW:Below w.heap.size w W)=>h.below hW);have HF:=Nm.hide hx;have hps:ls.length<=maxLen:=by omega
 unfold maxLen at hps;obtain⟨R,hR⟩:∃ R,Hid (R=amg ls name):=⟨_,rfl⟩;rw [<- hR.out];clear h hx hcap hmx;go_enter Tryz.func9,Tryz.ntmps9;go_wp2
 go_loopw [5] (fun i wr=>∃ (j:Nat),j<=ls.length∧i=.int .i64 j∧Below w.heap.size w wr∧Hid (∀ i x,i<j->ls[i]? =some x->sameS x name=false)) (fun i _=>ls.length-(intOf i).toNat)
 case atStart=>exact⟨0,Nat.zero_le _,rfl,Below.refl _ _,fun i x hi=>by omega⟩
 case round=>
  obtain⟨j,hj,rfl,hb,HNO⟩:=hrel
  by_cases hlt:j<ls.length
  ·obtain⟨q,hq⟩:∃ q,ls[j]? =some q:=⟨_,List.getElem?_eq_getElem hlt⟩;obtain⟨a9,c9,e9,_,_,_,hc9⟩:=HZ.out _ hb;simp only [Value.slice.injEq] at e9;obtain⟨rfl,_,rfl⟩:=e9;obtain⟨b,off,rfl,hcell⟩:=hc9 (by intro e;rw [e] at hlt;simp at hlt);have d0:=hcell j q hq;have hus:=HS.out q (HF.out q (List.mem_of_getElem? hq)) wr;have n1:(0:Int)<=(j:Int):=by omega
   have n2:(j:Int)<(ls.length:Int):=by omega
   have HQ:=Nm.hide hq;clear hc9 hcell hq
   cases hub:sameS q name with
   |true=>
    rw [hub] at hus;have HT:Hid (R=true):=by show _=_;rw [hR.out,amg,List.any_eq_true];exact⟨q,List.mem_of_getElem? HQ.out,hub⟩
    clear hub;go_wp2_with fail
    refine hus.mono ?_;rintro e w2 ⟨rfl,b2⟩;have bw2:=hb.trans (b2.mono hb.size);clear hus b2 d0;go_wp2;go_ret
    exact⟨by rw [HT.out];rfl,bw2⟩
   |false=>
    rw [hub] at hus
    have HN2:Hid (∀ i x,i<j+1->ls[i]? =some x->sameS x name=false):=by
     intro i x hi hx
     rcases Nat.lt_or_eq_of_le (Nat.le_of_lt_succ hi) with h1|h1
     ·exact HNO.out i x h1 hx
     ·subst h1;rw [HQ.out] at hx;obtain rfl:=Option.some.inj hx;exact hub
    clear hub;go_wp2_with fail
    refine hus.mono ?_;rintro e w2 ⟨rfl,b2⟩;have bw2:=hb.trans (b2.mono hb.size);clear hus b2 d0;go_wp2;go_roundw
    case rel=>exact⟨j+1,hlt,by go_num,bw2,HN2⟩
    case measure=>simp [intOf];omega
  ·have n2:¬(j:Int)<(ls.length:Int):=by omega
   have HT:Hid (R=false):=by show _=_;rw [hR.out];exact amg_no (fun i x hi hx=>HNO.out i x (by omega) hx)
   go_wp2;go_ret;exact⟨by rw [HT.out];rfl,hb⟩
def NdP(r:Nd×Int)(w:World)(e:Ending)(w':World):Prop:=∃ u,e=.returned (.tuple #[.agg #[.int .i64 r.1.kd,.string r.1.clo,.string r.1.cut,u],.int .i64 r.2])∧w'.ownsRow w.heap.size 2 1 u r.1.ty.length (intCells r.1.ty)∧Below w.heap.size w w'
theorem ndP_none{w w':World}(h:Below w.heap.size w w'):NdP (nd0,32) w (.returned (.tuple #[.agg #[.int .i64 0,.string ⟨#[]⟩,.string ⟨#[]⟩,.slice none 0 0],.int .i64 32])) w':=
 ⟨_,rfl,World.ownsRow_nil _ _ _ _,h⟩
theorem nd_node{ps:List Zp}{o name:ByteArray}{bb:Nat}{lv:Value}{th:Nat}{ys:List ByteArray}{aa:Option Addr}{ac:Nat}{labv rv:Value}{os:List GOw}{kv:Value}{ks:List Ld}{B:Nat}{W:World}{lab:List ByteArray}(la:Option Addr)(lc:Nat)(hP:P3 (zoneRecs ps) o bb lv th ys aa ac labv rv os kv ks B W)(hz:zOK ps o=true)(hn:Nm.split name=some lab)(hrow:Nm.SRow W (.slice la lab.length lc) lab):
 Calls Tryz.prog 22 #[.pointer (some ⟨bb,3,none⟩),.slice la lab.length lc] W (NdV (ndZ ps o name) W):=by
 have hzs:ps.map (·.1)=zoneT os:=by rw [<- (zOK_recs hz).2,zone_eq hP.st.inv hP.good.1 hP.mix]
 have hT:=tz_of hP.st.inv hP.good.1 hP.good.2 hP.ap hz hzs;have hol:=hP.st.inv.len.1;have hl5:=hP.hl;rw [List.length_map] at hol;rw [<- hT.nd hzs hn];exact treeNode_any bb 3 th rv os B la lc lab aa ac ys W hP.st.tr (by omega) (hP.st.inv.trs (by rw [List.length_map];omega)) hP.st.lab hrow (gl_split hn) ((blk_cell hP.kb 4).trans rfl) ((blk_cell hP.kb 3).trans rfl) hP.av (by have:=(gl_split hP.ap).2;have:=Nm.length_le_wsum ys;omega) (blk_lt hP.kb) (fun hu=>hT.hex hu)
set_option maxRecDepth 100000 in
set_option maxHeartbeats 1600000 in
theorem implFindNode_any(o name:ByteArray)(v:Value)(ps:List Zp)(w:World)(h:ZRow w v ps)(hs:zsum ps<=1048576)(hf:∀ p∈ps,p.1.own.size<=1048576∧∀ x∈p.1.da,x.size<=1048576)(ha:o.size<=1000000000)(hn:name.size<=1000000000):
 Calls Tryz.prog 7 #[.agg #[.string o,v],.string name] w (NdP (ndR ps o name) w):=by
 obtain⟨va,vc,rfl⟩:∃ va vc,v=.slice va ps.length vc:=by obtain⟨⟨_,a,c,e,_⟩,_⟩:=h;exact⟨a,c,e⟩
 have b0:=(Below.refl w.heap.size w).alloc (Nat.le_refl _) (.cells #[.string o,.slice va ps.length vc] 25);have b1:=b0.alloc b0.size (.cells #[.int .i64 0,.string ⟨#[]⟩,.string ⟨#[]⟩,.slice none 0 0] 32);have k0:=blk_alloc (blk_new w #[.string o,.slice va ps.length vc] 25) (.cells #[.int .i64 0,.string ⟨#[]⟩,.string ⟨#[]⟩,.slice none 0 0] 32);have kS:=blk_new (w.alloc (.cells #[.string o,.slice va ps.length vc] 25)) #[.int .i64 0,.string ⟨#[]⟩,.string ⟨#[]⟩,.slice none 0 0] 32;rw [World.size_alloc] at kS;have hop:=openZone_any o (.slice va ps.length vc) ps _ (h.below b1) hs hf ha;have hsp:=fun W=>splitName_any name W (by unfold maxLen;omega)
 have r0:=fun i=>blk_cell k0 i
 obtain⟨R,hR⟩:∃ R,R=ndR ps o name:=⟨_,rfl⟩;have HR:=Nm.hide hR;rw [<- hR];clear h hf hs hR;go_enter Tryz.func7,Tryz.ntmps7;go_wp2_with fail
 refine hop.mono ?_;rintro e w1 ⟨hb1,⟨hz,rfl⟩|⟨hz,bb,lv,th,ys,aa,ac,labv,rv,os,kv,ks,B,rfl,hP⟩⟩
 ·have hR0:R=(nd0,32):=by rw [HR.out,ndR,if_neg (by rw [hz];simp)]
  have bw1:=Nm.below_two b1 hb1;have kS1:=blk_below kS hb1;clear HR hz hop k0 kS b0 b1 hb1 r0;subst hR0;go_wp2_with fail
  refine(hsp _).mono ?_;rintro e w2 ⟨lv,rfl,hov,b2⟩;generalize (Nm.split name).isSome=SB at*;generalize (Nm.split name).getD []=SL at*;obtain⟨la,lc,rfl⟩:=own_sl hov;have kS2:=blk_below kS1 b2;have rz:=fun i=>blk_cell kS2 i
  have fz:=fun i=>blk_frozen kS2 i
  obtain⟨k4,-,bw4⟩:=node_store (kd:=0) (x:=⟨#[]⟩) (y:=⟨#[]⟩) kS2 (World.ownsRow_nil w2 0 2 1) (by simp [Value.ownBlock]) (Nm.below_two bw1 b2) (Nat.le_succ _);have rk:=fun i=>blk_cell k4 i
  clear kS1 kS2 hov k4 hsp;go_wp2_with fail
  refine bodyPost_ret (v:=.tuple #[.agg #[.int .i64 0,.string ⟨#[]⟩,.string ⟨#[]⟩,.slice none 0 0],.int .i64 32]) ?_ rfl (ndP_none bw4);simp [results,Tryz.f7,go_sem,rk]
 ·have bw1:=Nm.below_two b1 hb1;have kS1:=blk_below kS hb1;clear hop k0 kS b0 b1 hb1 r0;go_wp2_with fail
  refine(hsp _).mono ?_;rintro e w2 ⟨lv',rfl,hov,b2⟩;have kS2:=blk_below kS1 b2;have bw2:=Nm.below_two bw1 b2;have hP2:=hP.below b2
  cases hsn:Nm.split name with
  |none=>
   rw [hsn] at hov;have hR0:R=(nd0,32):=by rw [HR.out,ndR,if_neg (by rw [hsn];simp)]
   clear HR hz hP hP2 hsp hsn bw1 kS1;subst hR0;obtain⟨la,lc,rfl⟩:=own_sl hov;simp only [Option.isSome_none,Option.getD_none,List.length_nil] at hov ⊢;have rz:=fun i=>blk_cell kS2 i
   have fz:=fun i=>blk_frozen kS2 i
   obtain⟨k4,-,bw4⟩:=node_store (kd:=0) (x:=⟨#[]⟩) (y:=⟨#[]⟩) kS2 (World.ownsRow_nil w2 0 2 1) (by simp [Value.ownBlock]) bw2 (Nat.le_succ _);have rk:=fun i=>blk_cell k4 i
   clear kS2 hov k4;go_wp2_with fail
   refine bodyPost_ret (v:=.tuple #[.agg #[.int .i64 0,.string ⟨#[]⟩,.string ⟨#[]⟩,.slice none 0 0],.int .i64 32]) ?_ rfl (ndP_none bw4)
   simp [results,Tryz.f7,go_sem,rk]
  |some lab=>
   have hR1:R=(ndZ ps o name,0):=by rw [HR.out,ndR,if_pos ⟨hz,by rw [hsn];rfl⟩]
   rw [hsn] at hov;simp only [Option.getD_some] at hov;obtain⟨la,lc,rfl⟩:=own_sl hov;have hts:=nd_node la lc hP2 hz hsn (Nm.SRow.of_owns hov);clear HR hz hP hP2 hsp hsn bw1 kS1 hov;subst hR1;generalize ndZ ps o name=N at*;obtain⟨kd,x,y,l⟩:=N;simp only [Option.isSome_some];go_wp2_with fail
   refine hts.mono ?_;rintro e w3 ⟨u,rfl,hou,b3⟩;obtain⟨ua,uc,eu⟩:=own_sl hou;subst eu;have kS3:=blk_below kS2 b3;have rz:=fun i=>blk_cell kS3 i
   have fz:=fun i=>blk_frozen kS3 i
   obtain⟨k4,ho4,bw4⟩:=node_store (kd:=kd) (x:=x) (y:=y) kS3 hou (fun e=>by have h1:=(hou.lt _ e).1;have h2:=blk_lt kS2;omega) (Nm.below_two bw2 b3) (Nat.le_succ _);have rk:=fun i=>blk_cell k4 i
   have HP:Hid (NdP (⟨kd,x,y,l⟩,0) w (.returned (.tuple #[.agg #[.int .i64 kd,.string x,.string y,.slice ua l.length uc],.int .i64 0])) _):=⟨_,rfl,own_base ho4 bw2.size,bw4⟩;clear kS2 kS3 k4 ho4 bw4 hou hts;simp only at*
   go_wp2_with fail
   refine bodyPost_ret (v:=.tuple #[.agg #[.int .i64 kd,.string x,.string y,.slice ua l.length uc],.int .i64 0]) ?_ rfl HP.out;simp [results,Tryz.f7,go_sem,rk]
end Go.Proofs.YtahpiciofdfipaaGreat
