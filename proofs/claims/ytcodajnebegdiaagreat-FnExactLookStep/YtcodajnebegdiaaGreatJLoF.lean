import Derived.Test.YtcodajnebegdiaaGreatLoE
import Derived.Test.YtcodajnebegdiaaGreatJCzO
import Derived.Test.YtcodajnebegdiaaGreatCzC
import Derived.Test.YtcodajnebegdiaaGreatJZbB
import Derived.Test.YtcodajnebegdiaaGreatJMath
import Derived.Test.YtcodajnebegdiaaGreatRows
import Derived.WalkSpells
import Derived.WalkLawsBesides
import Derived.RegionTactic
import Derived.BigRegion
import Derived.BigQuiet
import Derived.Deep.QuietTactic
import Derived.Test.YtcodajnebegdiaaGreatJZbA
import Derived.Deep.RegionHeld3
import Derived.Test.YtcodajnebegdiaaGreatJGrT
namespace Go.Proofs.YtcodajnebegdiaaGreat
open Go.RowKit
set_option linter.unusedVariables false
theorem grpK_full{l srt:List It}:∀ (k:Nat),k<=srt.length->∀ s∈grpK l srt k,0<s.da.length:=by
 intro k
 induction k with
 |zero=>intro _;simp [grpK]
 |succ k ih=>
  intro hk;have h2:=ih (by omega);obtain⟨x,hx⟩:∃ x,srt[k]? =some x:=⟨_,List.getElem?_eq_getElem (by omega)⟩
  cases hn:newSet srt k x with
  |true=>
   rw [grpK_new hx hn];intro s hs
   rcases List.mem_append.1 hs with h|h
   ·exact h2 s h
   ·simp at h;subst h;simp
  |false=>
   have hk0:0<k:=by
    rcases Nat.eq_zero_or_pos k with h|h
    ·subst h;simp [newSet] at hn
    ·exact h
   obtain⟨qs,s,e⟩:=grpK_last (l:=l) (srt:=srt) k hk0 (by omega);rw [grpK_old hx hn e];rw [e] at h2;intro t ht
   rcases List.mem_append.1 ht with h|h
   ·exact h2 t (List.mem_append.2 (.inl h))
   ·simp at h;subst h;simp
theorem zOK_full{ps:List Zp}{o:ByteArray}(hz:zOK ps o=true):∀ p∈ps,0<p.1.da.length:=by
 intro p hp;have hm:p.1∈ps.map (·.1):=List.mem_map.2 ⟨p,hp,rfl⟩;rw [<- (zOK_recs hz).2,bldZ] at hm;exact grpK_full _ (Nat.le_refl _) _ hm
theorem zOK_apL{ps:List Zp}{o:ByteArray}(hz:zOK ps o=true):∃ al,Nm.split o=some al:=by
 have h0:=(zOK_recs hz).1;rw [bldE] at h0
 cases hq:Nm.split o with
 |some al=>exact⟨al,rfl⟩
 |none=>rw [hq] at h0;simp at h0
def SmP(r:Stp×Int)(w:World)(e:Ending)(w':World):Prop:=∃ v ps,e=.returned (.tuple #[.agg #[.int .i64 r.1.kd,v,.bool r.1.wild,.string r.1.tgt],.int .i64 r.2])∧List.map (·.1) ps=r.1.ss∧ZFr w' w.heap.size v ps∧Below w.heap.size w w'
set_option maxRecDepth 100000 in
set_option maxHeartbeats 1600000 in
theorem specLookStep_any(o name:ByteArray)(q:Int)(v:Value)(ps:List Zp)(w:World)(h:ZRow w v ps)(hs:zsum ps<=1048576)(hl:ps.length<=1048576)(hf:∀ p∈ps,p.1.own.size<=1048576∧p.1.da.length<=1048576∧∀ x∈p.1.da,x.size<=1048576)(ha:o.size<=maxLen)(hn:name.size<=maxLen):
 Calls Tryz.prog 6 #[.agg #[.string o,v],.string name,.int .i64 q] w (SmP (lsR ps o name q) w):=by
 obtain⟨va,vc,rfl⟩:∃ va vc,v=.slice va ps.length vc:=by obtain⟨⟨_,a,c,e,_⟩,_⟩:=h;exact⟨a,c,e⟩
 have b0:=((Below.refl w.heap.size w).alloc (Nat.le_refl _) (.cells #[.string o,.slice va ps.length vc] 32)).alloc (by simp) (.cells st0 28);have k0:=blk_alloc (blk_new w #[.string o,.slice va ps.length vc] 32) (.cells st0 28);have kS:=blk_new (w.alloc (.cells #[.string o,.slice va ps.length vc] 32)) st0 28;rw [World.size_alloc] at kS;have hck:=specCheckZone_any o (.slice va ps.length vc) ps _ (h.below b0) hs hl (fun p hp=>⟨(hf p hp).1,(hf p hp).2.2⟩) ha;have hok:=fun W=>specNameOK_any name W hn
 have HST:Hid (∀ lab,Nm.split name=some lab->zOK ps o=true->∀ W,Below w.heap.size w W->Calls Tryz.prog 22 #[.agg #[.string o,.slice va ps.length vc],.string name,.int .i64 q] W (SfP (lkZ ps o name q) W)):=fun lab hlab hz W hW=>by
  obtain⟨al,hal⟩:=zOK_apL hz;exact l07Step_any o name lab q _ ps W (h.below hW) hl hf hlab ha (fun hu=>thz_ex hz hal hlab (by rw [<- isUnder_some hlab hal];exact hu)) (zOK_full hz)
 obtain⟨R,HR⟩:∃ R,Hid (R=lsR ps o name q):=⟨_,rfl⟩;rw [<- HR.out];obtain⟨W0,hW0⟩:∃ W0,(w.alloc (.cells #[.string o,.slice va ps.length vc] 32)).alloc (.cells st0 28)=W0:=⟨_,rfl⟩;rw [hW0] at b0 k0 kS hck;have r0:=fun i=>blk_cell k0 i
 clear h hf hs
 cases hz:zOK ps o with
 |false=>
  rw [hz] at hck;simp only [Bool.false_eq_true,if_false] at hck;have hR0:R=(stp 0,32):=by rw [HR.out,lsR,if_neg (fun hh=>by rw [hh.1] at hz;cases hz)]
  subst hR0;clear hz HST HR;go_enter Tryz.func6,Tryz.ntmps6;go_wp2_with fail
  refine hck.mono ?_;rintro e WB ⟨rfl,hb1⟩;have bB:=Nm.below_two b0 hb1;have kB:=blk_below kS hb1;clear kS k0 r0 hck hb1 b0;have kX:=setAll_new (st4 0 (.slice none 0 0) false ⟨#[]⟩) kB rfl;have HX:Hid (ZFr (setAll WB (w.heap.size+1) 0 (st4 0 (.slice none 0 0) false ⟨#[]⟩)) w.heap.size (.slice none 0 0) []∧Below w.heap.size w (setAll WB (w.heap.size+1) 0 (st4 0 (.slice none 0 0) false ⟨#[]⟩))):=⟨ZFr.nil,below_setR (by omega) _ 0 _ bB⟩;simp only [setAll,Nat.reduceAdd,Nat.zero_add] at kX HX;have rX:=fun i=>blk_cell kX i
  have rk:=fun i=>blk_cell kB i
  have fk:=fun i=>blk_frozen kB i
  clear kX kB bB;go_wp2_with fail
  refine bodyPost_ret (v:=.tuple #[.agg #[.int .i64 0,.slice none 0 0,.bool false,.string ⟨#[]⟩],.int .i64 32]) ?_ rfl ⟨_,[],rfl,rfl,HX.out.1,HX.out.2⟩
  simp [results,Tryz.f6,go_sem,rX]
 |true=>
  rw [hz] at hck;simp only [if_true] at hck
  cases hsn:Nm.split name with
  |none=>
   rw [hsn] at hok;simp only [Option.isSome_none] at hok;have hR0:R=(stp 0,32):=by rw [HR.out,lsR,if_neg (fun hh=>by have:=hh.2.1;rw [hsn] at this;cases this)]
   subst hR0;clear hz HST HR hsn;go_enter Tryz.func6,Tryz.ntmps6;go_wp2_with fail
   refine hck.mono ?_;rintro e w1 ⟨rfl,hb1⟩;go_wp2_with fail
   refine(hok _).mono ?_;rintro e WB ⟨rfl,hb2⟩;have c2:=Nm.below_two hb1 hb2;have bB:=Nm.below_two b0 c2;have kB:=blk_below kS c2;clear kS k0 r0 hck hb1 hb2 b0 c2;have kX:=setAll_new (st4 0 (.slice none 0 0) false ⟨#[]⟩) kB rfl;have HX:Hid (ZFr (setAll WB (w.heap.size+1) 0 (st4 0 (.slice none 0 0) false ⟨#[]⟩)) w.heap.size (.slice none 0 0) []∧Below w.heap.size w (setAll WB (w.heap.size+1) 0 (st4 0 (.slice none 0 0) false ⟨#[]⟩))):=⟨ZFr.nil,below_setR (by omega) _ 0 _ bB⟩;simp only [setAll,Nat.reduceAdd,Nat.zero_add] at kX HX;have rX:=fun i=>blk_cell kX i
   have rk:=fun i=>blk_cell kB i
   have fk:=fun i=>blk_frozen kB i
   clear kX kB bB;go_wp2_with fail
   refine bodyPost_ret (v:=.tuple #[.agg #[.int .i64 0,.slice none 0 0,.bool false,.string ⟨#[]⟩],.int .i64 32]) ?_ rfl ⟨_,[],rfl,rfl,HX.out.1,HX.out.2⟩
   simp [results,Tryz.f6,go_sem,rX]
  |some lab=>
   rw [hsn] at hok;simp only [Option.isSome_some] at hok
   by_cases hq1:q<1
   ·have hR0:R=(stp 0,32):=by rw [HR.out,lsR,if_neg (fun hh=>by have:=hh.2.2.1;omega)]
    subst hR0;clear hz HST HR hsn;go_enter Tryz.func6,Tryz.ntmps6;go_wp2_with fail
    refine hck.mono ?_;rintro e w1 ⟨rfl,hb1⟩;go_wp2_with fail
    refine(hok _).mono ?_;rintro e WB ⟨rfl,hb2⟩;have c2:=Nm.below_two hb1 hb2;have bB:=Nm.below_two b0 c2;have kB:=blk_below kS c2;clear kS k0 r0 hck hb1 hb2 b0 c2;have kX:=setAll_new (st4 0 (.slice none 0 0) false ⟨#[]⟩) kB rfl;have HX:Hid (ZFr (setAll WB (w.heap.size+1) 0 (st4 0 (.slice none 0 0) false ⟨#[]⟩)) w.heap.size (.slice none 0 0) []∧Below w.heap.size w (setAll WB (w.heap.size+1) 0 (st4 0 (.slice none 0 0) false ⟨#[]⟩))):=⟨ZFr.nil,below_setR (by omega) _ 0 _ bB⟩;simp only [setAll,Nat.reduceAdd,Nat.zero_add] at kX HX;have rX:=fun i=>blk_cell kX i
    have rk:=fun i=>blk_cell kB i
    have fk:=fun i=>blk_frozen kB i
    clear kX kB bB;go_wp2_with fail
    refine bodyPost_ret (v:=.tuple #[.agg #[.int .i64 0,.slice none 0 0,.bool false,.string ⟨#[]⟩],.int .i64 32]) ?_ rfl ⟨_,[],rfl,rfl,HX.out.1,HX.out.2⟩;simp [results,Tryz.f6,go_sem,rX]
   ·by_cases hq2:65535<q
    ·have hR0:R=(stp 0,32):=by rw [HR.out,lsR,if_neg (fun hh=>by have:=hh.2.2.2;omega)]
     subst hR0;clear hz HST HR hsn;go_enter Tryz.func6,Tryz.ntmps6;go_wp2_with fail
     refine hck.mono ?_;rintro e w1 ⟨rfl,hb1⟩;go_wp2_with fail
     refine(hok _).mono ?_;rintro e WB ⟨rfl,hb2⟩;have c2:=Nm.below_two hb1 hb2;have bB:=Nm.below_two b0 c2;have kB:=blk_below kS c2;clear kS k0 r0 hck hb1 hb2 b0 c2;have kX:=setAll_new (st4 0 (.slice none 0 0) false ⟨#[]⟩) kB rfl;have HX:Hid (ZFr (setAll WB (w.heap.size+1) 0 (st4 0 (.slice none 0 0) false ⟨#[]⟩)) w.heap.size (.slice none 0 0) []∧Below w.heap.size w (setAll WB (w.heap.size+1) 0 (st4 0 (.slice none 0 0) false ⟨#[]⟩))):=⟨ZFr.nil,below_setR (by omega) _ 0 _ bB⟩;simp only [setAll,Nat.reduceAdd,Nat.zero_add] at kX HX;have rX:=fun i=>blk_cell kX i
     have rk:=fun i=>blk_cell kB i
     have fk:=fun i=>blk_frozen kB i
     clear kX kB bB;go_wp2_with fail
     refine bodyPost_ret (v:=.tuple #[.agg #[.int .i64 0,.slice none 0 0,.bool false,.string ⟨#[]⟩],.int .i64 32]) ?_ rfl ⟨_,[],rfl,rfl,HX.out.1,HX.out.2⟩;simp [results,Tryz.f6,go_sem,rX]
    ·have hR1:R=(lkZ ps o name q,0):=by rw [HR.out,lsR,if_pos ⟨hz,by rw [hsn];rfl,by omega,by omega⟩]
     have hst:=HST.out lab hsn hz;subst hR1;generalize lkZ ps o name q=N at*;clear hz HST HR hsn;go_enter Tryz.func6,Tryz.ntmps6;go_wp2_with fail
     refine hck.mono ?_;rintro e w1 ⟨rfl,hb1⟩;go_wp2_with fail
     refine(hok _).mono ?_;rintro e w2 ⟨rfl,hb2⟩;have c2:=Nm.below_two hb1 hb2;have bw2:=Nm.below_two b0 c2;have kS2:=blk_below kS c2;have kZ2:=blk_below k0 c2;have rZ2:=fun i=>blk_cell kZ2 i
     have sR:w.heap.size+1<w2.heap.size:=blk_lt kS2;clear kS k0 r0 hck hb1 hb2 b0 c2 hok;go_wp2_with fail
     refine(hst _ bw2).mono ?_;rintro e w3 ⟨v3,ps3,rfl,e3,z3,b3⟩;obtain⟨ea,ec,rfl⟩:∃ a c,v3=.slice a ps3.length c:=by(obtain⟨⟨_,a,c,e,_⟩,_⟩:=z3.read;exact⟨a,c,e⟩)
     have bw3:=Nm.below_two bw2 b3;have kS3:=blk_below kS2 b3;have kX:=setAll_new (st4 N.kd (.slice ea ps3.length ec) N.wild N.tgt) kS3 rfl;have HX:Hid (List.map (·.1) ps3=N.ss∧ZFr (setAll w3 (w.heap.size+1) 0 (st4 N.kd (.slice ea ps3.length ec) N.wild N.tgt)) w.heap.size (.slice ea ps3.length ec) ps3∧Below w.heap.size w (setAll w3 (w.heap.size+1) 0 (st4 N.kd (.slice ea ps3.length ec) N.wild N.tgt))):=⟨e3,(ZFr.setR (by omega) _ 0 _ z3).base (by omega),below_setR (by omega) _ 0 _ bw3⟩;simp only [setAll,Nat.reduceAdd,Nat.zero_add] at kX HX;have rX:=fun i=>blk_cell kX i
     have rk:=fun i=>blk_cell kS3 i
     have fk:=fun i=>blk_frozen kS3 i
     clear kX kS3 kS2 kZ2 e3 z3 b3 bw2 bw3 hst;go_wp2_with fail
     refine bodyPost_ret (v:=.tuple #[.agg #[.int .i64 N.kd,.slice ea ps3.length ec,.bool N.wild,.string N.tgt],.int .i64 0]) ?_ rfl ⟨_,_,rfl,HX.out.1,HX.out.2.1,HX.out.2.2⟩;simp [results,Tryz.f6,go_sem,rX]
def SlP(r:Stp×Int)(w:World)(e:Ending)(w':World):Prop:=∃ v ps,e=.returned (.tuple #[.agg #[.int .i64 r.1.kd,v,.bool r.1.wild,.string r.1.tgt],.int .i64 r.2])∧List.map (·.1) ps=r.1.ss∧ZOwn w' w.heap.size v ps∧Below w.heap.size w w'
theorem lo_look{ps:List Zp}{o name:ByteArray}{q:Int}{bb:Nat}{lv:Value}{th:Nat}{ys:List ByteArray}{aa:Option Addr}{ac:Nat}{labv rv:Value}{os:List GOw}{kv:Value}{ks:List Ld}{B:Nat}{W:World}{lab:List ByteArray}(la:Option Addr)(lc:Nat)(hP:P3 (zoneRecs ps) o bb lv th ys aa ac labv rv os kv ks B W)(hz:zOK ps o=true)(hn:Nm.split name=some lab)(hrow:Nm.SRow W (.slice la lab.length lc) lab)(hf:∀ p∈ps,∀ x∈p.1.da,x.size<=1048576):
 Calls Tryz.prog 25 #[.pointer (some ⟨bb,3,none⟩),.slice la lab.length lc,.int .i64 q] W (SoP (lkZ ps o name q) W):=by
 have hzs:ps.map (·.1)=zoneT os:=by rw [<- (zOK_recs hz).2,zone_eq hP.st.inv hP.good.1 hP.mix]
 have hT:=tz_of hP.st.inv hP.good.1 hP.good.2 hP.ap hz hzs;have hol:=hP.st.inv.len.1;have hl5:=hP.hl;rw [List.length_map] at hol;rw [<- hT.look hzs hn hP.d39 q];refine look_any bb 3 th rv os B la lc lab o name aa ac ys q W hT hP.st.tr (by omega) (hP.st.inv.trs (by rw [List.length_map];omega)) hP.st.lab hrow (gl_split hn) (split_jo hn) ((blk_cell hP.kb 4).trans rfl) ((blk_cell hP.kb 3).trans rfl) hP.av (by have:=(gl_split hP.ap).2;have:=Nm.length_le_wsum ys;omega) (blk_lt hP.kb) (fun c hc s hs=>⟨hP.full c hc s hs,?_⟩) hP.d39;have h0:=hP.full c hc s hs
 obtain⟨p,r,hda⟩:∃ p r,s.da=p::r:=by
  cases hx:s.da with
  |nil=>rw [hx] at h0;simp at h0
  |cons p r=>exact⟨p,r,rfl⟩
 have hm:szT (c,s)∈ps.map (·.1):=by rw [hzs];exact List.mem_map.2 ⟨(c,s),grT_mem.2 ⟨hc,hs⟩,rfl⟩
 obtain⟨z,hz1,hz2⟩:=List.mem_map.1 hm;have:=hf z hz1 p.2 (by rw [hz2];simp [szT,hda]);have e:hdB (szT (c,s)).da=p.2:=by simp [hdB,szT,hda]
 rw [e];omega
set_option maxRecDepth 100000 in
set_option maxHeartbeats 1600000 in
theorem implLookStep_any(o name:ByteArray)(q:Int)(v:Value)(ps:List Zp)(w:World)(h:ZRow w v ps)(hs:zsum ps<=1048576)(hf:∀ p∈ps,p.1.own.size<=1048576∧∀ x∈p.1.da,x.size<=1048576)(ha:o.size<=1000000000)(hn:name.size<=1000000000):
 Calls Tryz.prog 8 #[.agg #[.string o,v],.string name,.int .i64 q] w (SlP (lsR ps o name q) w):=by
 obtain⟨va,vc,rfl⟩:∃ va vc,v=.slice va ps.length vc:=by obtain⟨⟨_,a,c,e,_⟩,_⟩:=h;exact⟨a,c,e⟩
 have b0:=((Below.refl w.heap.size w).alloc (Nat.le_refl _) (.cells #[.string o,.slice va ps.length vc] 32)).alloc (by simp) (.cells st0A 28);have k0:=blk_alloc (blk_new w #[.string o,.slice va ps.length vc] 32) (.cells st0A 28);have kS:=blk_new (w.alloc (.cells #[.string o,.slice va ps.length vc] 32)) st0A 28;rw [World.size_alloc] at kS;have hop:=openQuery_any o name q (.slice va ps.length vc) ps _ (h.below b0) hs hf ha hn;have r0:=fun i=>blk_cell k0 i
 obtain⟨R,hR⟩:∃ R,R=lsR ps o name q:=⟨_,rfl⟩;have HR:=Nm.hide hR;rw [<- hR];have HF:=Nm.hide (fun p hp=>(hf p hp).2);clear h hf hs hR;obtain⟨W0,hW0⟩:∃ W0,(w.alloc (.cells #[.string o,.slice va ps.length vc] 32)).alloc (.cells st0A 28)=W0:=⟨_,rfl⟩;rw [hW0] at b0 k0 kS hop r0;go_enter Tryz.func8,Tryz.ntmps8;go_wp2_with fail
 refine hop.mono ?_;rintro e w1 ⟨hb1,⟨hz,rfl⟩|⟨hz,bb,lv,th,ys,aa,ac,labv,rv,os,kv,ks,B,la,lc,lab,rfl,hsn,hP,hrow⟩⟩
 ·have hR0:R=(stp 0,32):=by rw [HR.out,lsR,if_neg hz]
  have bw1:=Nm.below_two b0 hb1;have kS1:=blk_below kS hb1;have kX:=setAll_new (stL4 0 (.slice none 0 0) false ⟨#[]⟩) kS1 rfl;have HX:Hid (ZOwn (setAll w1 (w.heap.size+1) 0 (stL4 0 (.slice none 0 0) false ⟨#[]⟩)) w.heap.size (.slice none 0 0) []∧Below w.heap.size w (setAll w1 (w.heap.size+1) 0 (stL4 0 (.slice none 0 0) false ⟨#[]⟩))):=⟨ZOwn.nil _ _,below_set4 (by omega) _ 0 _ bw1⟩;simp only [setAll,Nat.reduceAdd,Nat.zero_add] at kX HX;have rX:=fun i=>blk_cell kX i
  have rk:=fun i=>blk_cell kS1 i
  have fk:=fun i=>blk_frozen kS1 i
  clear HR hz hop k0 kS b0 hb1 r0 kX kS1 HF;subst hR0;go_wp2_with fail
  refine bodyPost_ret (v:=.tuple #[.agg #[.int .i64 0,.slice none 0 0,.bool false,.string ⟨#[]⟩],.int .i64 32]) ?_ rfl ⟨_,[],rfl,rfl,HX.out.1,HX.out.2⟩;simp [results,Tryz.f8,go_sem,rX]
 ·have hR1:R=(lkZ ps o name q,0):=by rw [HR.out,lsR,if_pos hz]
  have bw1:=Nm.below_two b0 hb1;have kS1:=blk_below kS hb1;have hts:=lo_look (q:=q) la lc hP hz.1 hsn hrow HF.out;clear HR hz hop k0 kS b0 hb1 r0 HF hsn hP hrow;subst hR1;generalize lkZ ps o name q=N at*;go_wp2_with fail
  refine hts.mono ?_;rintro e w3 ⟨u,qs,rfl,e3,z3,b3⟩;obtain⟨ua,uc,rfl⟩:=own_sl z3.outer;have kS3:=blk_below kS1 b3;have bw3:=Nm.below_two bw1 b3;have hlt:w.heap.size+1<w1.heap.size:=blk_lt kS1;have kX:=setAll_new (stL4 N.kd (.slice ua qs.length uc) N.wild N.tgt) kS3 rfl;have HX:Hid (List.map (·.1) qs=N.ss∧ZOwn (setAll w3 (w.heap.size+1) 0 (stL4 N.kd (.slice ua qs.length uc) N.wild N.tgt)) w.heap.size (.slice ua qs.length uc) qs∧Below w.heap.size w (setAll w3 (w.heap.size+1) 0 (stL4 N.kd (.slice ua qs.length uc) N.wild N.tgt))):=⟨e3,(ZOwn.set4 hlt _ 0 _ z3).base (by omega),below_set4 (by omega) _ 0 _ bw3⟩;simp only [setAll,Nat.reduceAdd,Nat.zero_add] at kX HX;have rX:=fun i=>blk_cell kX i
  have rk:=fun i=>blk_cell kS3 i
  have fk:=fun i=>blk_frozen kS3 i
  clear kX kS3 kS1 e3 z3 hts b3;go_wp2_with fail
  refine bodyPost_ret (v:=.tuple #[.agg #[.int .i64 N.kd,.slice ua qs.length uc,.bool N.wild,.string N.tgt],.int .i64 0]) ?_ rfl ⟨_,_,rfl,HX.out.1,HX.out.2.1,HX.out.2.2⟩;simp [results,Tryz.f8,go_sem,rX]
end Go.Proofs.YtcodajnebegdiaaGreat
namespace Go.Proofs.YtcodajnebegdiaaGreat
open Go.RowKit
set_option maxRecDepth 100000 in
set_option maxHeartbeats 800000 in
theorem eqStringS_any(v u:Value)(ls:List ByteArray)(w:World)(h:Nm.SRow w v ls)(h':Nm.SRow w u ls)(hlen:ls.length<=1000000000):
 Calls Tryz.prog 108 #[v,u] w fun e w'=>e=.returned (.bool true)∧Below w.heap.size w w':=by
 obtain⟨a,cap,rfl,hcap,hmx,hnl,hc⟩:=h;obtain⟨a',cap',rfl,hcap',hmx',hnl',hc'⟩:=h';have hne:((ls.length:Int) != (ls.length:Int))=false:=by simp
 clear hnl hnl';go_enter Tryz.func108,Tryz.ntmps108;go_wp2
 go_loopw [5] (fun i wr=>∃ k:Nat,k<=ls.length∧i=.int .i64 k∧Below w.heap.size w wr) (fun i _=>ls.length-(intOf i).toNat)
 case atStart=>exact⟨0,Nat.zero_le _,rfl,Below.refl _ _⟩
 case round=>
  obtain⟨k,hk,rfl,hbel⟩:=hrel
  by_cases hlt:k<ls.length
  ·obtain⟨x,hx⟩:∃ x,ls[k]? =some x:=⟨_,List.getElem?_eq_getElem hlt⟩;have hls:ls≠[]:=by intro h;rw [h] at hlt;simp at hlt
   obtain⟨b,off,rfl,hcell⟩:=hc hls;obtain⟨b',off',rfl,hcell'⟩:=hc' hls;have hcx:wr.cell? ⟨b,off+k,none⟩=some (.string x):=(hbel.cell (World.block_lt_of_cell? w _ (hcell k x hx))).trans (hcell k x hx);have hcx':wr.cell? ⟨b',off'+k,none⟩=some (.string x):=(hbel.cell (World.block_lt_of_cell? w _ (hcell' k x hx))).trans (hcell' k x hx);have hxx:(x.toList==x.toList)=true:=by simp
   clear hx hcell hcell' hc hc' hls;go_wp2;go_region
   all_goals
    go_wp2;go_roundw
    case rel=>exact⟨k+1,by omega,by go_num,hbel.drew⟩
    case measure=>simp [intOf];omega
  ·go_wp2;go_ret;exact⟨rfl,hbel⟩
end Go.Proofs.YtcodajnebegdiaaGreat
namespace Go.Proofs.YtcodajnebegdiaaGreat
open Go.RowKit
set_option linter.unusedVariables false
theorem strz_ne(s:ByteArray):(s.toList != s.toList)=false∧(s.toList==s.toList)=true:=by simp
set_option maxRecDepth 100000 in
set_option maxHeartbeats 800000 in
theorem eqSet_any(s:Sz)(dv du:Value)(w:World)(h:Nm.SRow w dv s.da)(h':Nm.SRow w du s.da)(hl:s.da.length<=1000000000):
 Calls Tryz.prog 62 #[.agg #[.string s.own,.int .i64 s.ty,.int .i64 s.tt,dv],.agg #[.string s.own,.int .i64 s.ty,.int .i64 s.tt,du]] w fun e w'=>e=.returned (.bool true)∧Below w.heap.size w w':=by
 obtain⟨o,ty,tt,da⟩:=s;simp only at*
 have e1:(ty != ty)=false:=by simp
 have e2:(tt != tt)=false:=by simp
 obtain⟨e3,e4⟩:=strz_ne o;have hB:=((Below.refl w.heap.size w).alloc (Nat.le_refl _) (.cells #[.string o,.int .i64 ty,.int .i64 tt,dv] 76)).alloc (by simp) (.cells #[.string o,.int .i64 ty,.int .i64 tt,du] 76);have hone:=eqStringS_any dv du da _ (h.below hB) (h'.below hB) hl;obtain⟨a,cap,rfl,_⟩:=h;obtain⟨a',cap',rfl,_⟩:=h';go_enter Tryz.func62,Tryz.ntmps62;go_wp2_with (go_at_call 108;refine hone.mono ?_;rintro e w1 ⟨rfl,hb1⟩)
 go_ret;exact⟨rfl,Nm.below_two hB hb1⟩
set_option maxRecDepth 100000 in
set_option maxHeartbeats 1600000 in
theorem eqSetS_any(v u:Value)(qs rs:List Zp)(w:World)(h:ZRow w v qs)(h':ZRow w u rs)(he:qs.map (·.1)=rs.map (·.1))(hd:∀ q∈qs,q.1.da.length<=1000000000):
 Calls Tryz.prog 26 #[v,u] w fun e w'=>e=.returned (.bool true)∧Below w.heap.size w w':=by
 have hlen:rs.length=qs.length:=by have:=congrArg List.length he;simpa using this.symm
 obtain⟨⟨_,a,cap,rfl,hcap,hmx,hc⟩,hq⟩:=h;obtain⟨⟨_,a',cap',rfl,hcap',hmx',hc'⟩,hr⟩:=h';unfold maxLen at hmx hmx';rw [hlen] at hcap' hc' ⊢;have hne:((qs.length:Int) != (qs.length:Int))=false:=by simp
 go_enter Tryz.func26,Tryz.ntmps26;go_wp2
 go_loopw [5] (fun i wr=>∃ k:Nat,k<=qs.length∧i=.int .i64 k∧Below w.heap.size w wr) (fun i _=>qs.length-(intOf i).toNat)
 case atStart=>exact⟨0,Nat.zero_le _,rfl,Below.refl _ _⟩
 case round=>
  obtain⟨k,hk,rfl,hbel⟩:=hrel
  by_cases hlt:k<qs.length
  ·obtain⟨x,hx⟩:∃ x,qs[k]? =some x:=⟨_,List.getElem?_eq_getElem hlt⟩;obtain⟨y,hy⟩:∃ y,rs[k]? =some y:=⟨_,List.getElem?_eq_getElem (by omega)⟩
   have hxy:y.1=x.1:=by
    have:=congrArg (fun l=>l[k]?) he;simp [hx,hy] at this
    exact this.symm
   obtain⟨b,off,rfl,hcell⟩:=hc (by omega);obtain⟨b',off',rfl,hcell'⟩:=hc' (by omega);have R1:=zp_cells hcell hx;have R2:=zp_cells hcell' hy;have s1:=hq x (List.mem_of_getElem? hx);have s2:=hr y (List.mem_of_getElem? hy);have hdl:=hd x (List.mem_of_getElem? hx);rw [hxy] at R2 s2;obtain⟨s,dv⟩:=x;obtain⟨s',du⟩:=y;simp only at hxy R1 R2 s1 s2 hdl
   have heq:=fun W (hW:Below w.heap.size w W)=>(eqSet_any s dv du W (s1.below hW) (s2.below hW) hdl).mono (R':=fun e w'=>e=.returned (.bool true)∧Below w.heap.size w w') (by rintro e w' ⟨he,hb⟩;exact⟨he,hW.trans (hb.mono hW.size)⟩)
   obtain⟨o,ty,tt,da⟩:=s;simp only at R1 R2 heq
   have hS:∀ W,Below w.heap.size w W->((W.cell? ⟨b,off+k*4,none⟩=some (.string o)∧W.cell? ⟨b,off+k*4+1,none⟩=some (.int .i64 ty)∧W.cell? ⟨b,off+k*4+2,none⟩=some (.int .i64 tt)∧W.cell? ⟨b,off+k*4+3,none⟩=some dv)∧(W.cell? ⟨b',off'+k*4,none⟩=some (.string o)∧W.cell? ⟨b',off'+k*4+1,none⟩=some (.int .i64 ty)∧W.cell? ⟨b',off'+k*4+2,none⟩=some (.int .i64 tt)∧W.cell? ⟨b',off'+k*4+3,none⟩=some du))∧Below w.heap.size w W:=by
    intro W hW;have put:∀ {B O:Nat} {z:Value},w.cell? ⟨B,O,none⟩=some z->W.cell? ⟨B,O,none⟩=some z:=fun h=>(hW.cell (World.block_lt_of_cell? w _ h)).trans h
    exact⟨⟨⟨put R1.1,put R1.2.1,put R1.2.2.1,put R1.2.2.2⟩,⟨put R2.1,put R2.2.1,put R2.2.2.1,put R2.2.2.2⟩⟩,hW⟩
   have hS0:=hS wr.drew hbel.drew;have i1:(0:Int)<=(k:Int):=by omega
   have i2:(k:Int)<(qs.length:Int):=by omega
   clear hc hc' hcell hcell' hx hy R1 R2 s1 s2 hq hr he hd;go_wp2;go_region_held3 (fun W=>((W.cell? ⟨b,off+k*4,none⟩=some (.string o)∧W.cell? ⟨b,off+k*4+1,none⟩=some (.int .i64 ty)∧W.cell? ⟨b,off+k*4+2,none⟩=some (.int .i64 tt)∧W.cell? ⟨b,off+k*4+3,none⟩=some dv)∧(W.cell? ⟨b',off'+k*4,none⟩=some (.string o)∧W.cell? ⟨b',off'+k*4+1,none⟩=some (.int .i64 ty)∧W.cell? ⟨b',off'+k*4+2,none⟩=some (.int .i64 tt)∧W.cell? ⟨b',off'+k*4+3,none⟩=some du))∧Below w.heap.size w W) (first|with_reducible assumption|with_reducible exact hS0) ((first|(go_at_call 62;refine(heq _ hS0.2).mono ?_;rintro e w' ⟨rfl,hb1⟩;have hS1:=hS _ hb1)))
   go_wp2;go_roundw
   case rel=>exact⟨k+1,by omega,by go_num,hS1.2⟩
   case measure=>simp [intOf];omega
  ·clear hc hc' hq hr;have i2:(qs.length:Int)<=(k:Int):=by omega
   go_wp2;go_ret;exact⟨rfl,hbel⟩
set_option maxRecDepth 100000 in
set_option maxHeartbeats 800000 in
theorem eqZone_any(o:ByteArray)(v u:Value)(qs rs:List Zp)(w:World)(h:ZRow w v qs)(h':ZRow w u rs)(he:qs.map (·.1)=rs.map (·.1))(hd:∀ q∈qs,q.1.da.length<=1000000000):
 Calls Tryz.prog 10 #[.agg #[.string o,v],.agg #[.string o,u]] w fun e w'=>e=.returned (.bool true)∧Below w.heap.size w w':=by
 obtain⟨e3,e4⟩:=strz_ne o;have hB:=((Below.refl w.heap.size w).alloc (Nat.le_refl _) (.cells #[.string o,v] 32)).alloc (by simp) (.cells #[.string o,u] 32);have hone:=eqSetS_any v u qs rs _ (h.below hB) (h'.below hB) he hd;obtain⟨⟨_,a,cap,rfl,_⟩,_⟩:=h;obtain⟨⟨_,a',cap',rfl,_⟩,_⟩:=h';clear he hd;go_enter Tryz.func10,Tryz.ntmps10;go_wp2_with (go_at_call 26;refine hone.mono ?_;rintro e w1 ⟨rfl,hb1⟩)
 go_ret;exact⟨rfl,Nm.below_two hB hb1⟩
theorem grown_none{w w':World}(h:Below w.heap.size w w'):w.grownBy w' none:=⟨h.os,h.tape,h.output,h.size,fun k hk _=>h.block k hk⟩
def zfp(v:Value)(ps:List Zp):List Nat:=v.ownBlock.toList++ps.flatMap fun p=>p.2.ownBlock.toList
theorem gr_outs{fp:List Nat}{w W W':World}{row:Option Nat}(h:Outs fp w W)(hg:W.grownBy W' row)(hr:∀ g,row=some g->g∈fp):Outs fp w W':=
 ⟨hg.os.trans h.os,hg.tape.trans h.tape,hg.output.trans h.output,Nat.le_trans h.size hg.size,fun k hk hn=>(hg.block k (Nat.lt_of_lt_of_le hk h.size) (fun e=>hn (hr k e.symm))).trans (h.block k hk hn)⟩
set_option maxRecDepth 100000 in
set_option maxHeartbeats 1600000 in
theorem markSetS_own(v:Value)(qs:List Zp)(B k:Nat)(w:World)(h:ZOwn w B v qs)(hn:zl qs<=400000)(hk:k<=100000):
 Calls Tryz.prog 27 #[v,.int .i64 (k:Int)] w fun e w'=>e=.returned (.int .i64 ((k+zl qs:Nat):Int))∧ZOwn w' B v (mkZ k qs)∧Outs (zfp v qs) w w':=by
 have hql:=zl_len qs;have hmt:=fun(j:Nat) (hj:j<=1000000000) W=>markText_any j W hj
 obtain⟨a,cap,rfl⟩:=own_sl h.outer
 have hgex:0<qs.length->∃ g,a=some ⟨g,0,none⟩:=fun hp=>by
  rcases h.outer.2 with⟨e,h0⟩|⟨g,c,cur,e,_⟩
  ·omega
  ·cases e;exact⟨g,rfl⟩
 have H0:=Nm.hide h;clear h;go_enter Tryz.func27,Tryz.ntmps27;go_wp2
 go_loopw [1,5] (fun t i wr=>∃ j:Nat,j<=qs.length∧i=.int .i64 (j:Int)∧t=.int .i64 ((k:Int)+(zl (qs.take j):Int))∧ZOwn wr B (.slice a qs.length cap) ((mkZ k qs).take j++qs.drop j)∧Outs (zfp (.slice a qs.length cap) qs) w wr) (fun _ i _=>qs.length-(intOf i).toNat)
 case atStart=>exact⟨0,Nat.zero_le _,rfl,by simp [zl],by simpa using H0.out,Outs.below (Below.refl _ _)⟩
 case round=>
  obtain⟨j,hj,rfl,rfl,hz,hou⟩:=hrel
  by_cases hlt:j<qs.length
  ·obtain⟨q,hq⟩:∃ q,qs[j]? =some q:=⟨_,List.getElem?_eq_getElem hlt⟩;obtain⟨g,rfl⟩:=hgex (by omega);have hmx:=mixZ_at (k:=k) hq;have hst:=zl_step qs j q hq;have hle:=zl_take_le qs (j+1);have hone:=hmt (k+zl (qs.take j)) (by omega) wr;rw [show((k+zl (qs.take j):Nat):Int)=(k:Int)+(zl (qs.take j):Int) by omega] at hone;have hin:=hz.inner j q hmx;obtain⟨qa,qc,eq⟩:=own_sl hin;have hlen9:((mkZ k qs).take j++qs.drop j).length=qs.length:=by rw [List.length_append,List.length_take,mkZ_len,List.length_drop];omega
   have hms:∀ W,ZOwn W B (.slice (some ⟨g,0,none⟩) qs.length cap) (((mkZ k qs).take j++qs.drop j).set j (⟨mkS (k+zl (qs.take j)),((k+zl (qs.take j)+1:Nat):Int),((k+zl (qs.take j)+2:Nat):Int),q.1.da⟩,q.2))->Calls Tryz.prog 64 #[.slice qa q.1.da.length qc,.int .i64 ((k:Int)+(zl (qs.take j):Int)+1+1+1)] W fun e w'=>e=.returned (.int .i64 ((k:Int)+(zl (qs.take (j+1)):Int)))∧ZOwn w' B (.slice (some ⟨g,0,none⟩) qs.length cap) ((mkZ k qs).take (j+1)++qs.drop (j+1))∧W.grownBy w' q.2.ownBlock:=by
    intro W hW
    have hget:(((mkZ k qs).take j++qs.drop j).set j (⟨mkS (k+zl (qs.take j)),((k+zl (qs.take j)+1:Nat):Int),((k+zl (qs.take j)+2:Nat):Int),q.1.da⟩,q.2))[j]? =some (⟨mkS (k+zl (qs.take j)),((k+zl (qs.take j)+1:Nat):Int),((k+zl (qs.take j)+2:Nat):Int),q.1.da⟩,q.2):=by
     rw [List.getElem?_set];simp only [if_true];rw [if_pos (by omega)]
    have hi2:=hW.inner j _ hget;simp only at hi2
    have hm9:=markStringS_own q.2 q.1.da.length B (k+zl (qs.take j)+3) _ W hi2 (by omega) (by omega);rw [eq] at hm9;rw [show((k+zl (qs.take j)+3:Nat):Int)=(k:Int)+(zl (qs.take j):Int)+1+1+1 by omega] at hm9;refine hm9.mono ?_;rintro e w' ⟨rfl,ho,hg⟩;refine⟨by rw [show(k+zl (qs.take j)+3+q.1.da.length:Nat)=k+zl (qs.take (j+1)) by omega];congr 2,?_,by rw [eq];exact hg⟩;have hd:=hW.data (da:=mks (k+zl (qs.take j)+3) q.1.da.length) hget (by rw [mks_len]) (by rw [eq];exact ho) (by rw [eq];exact hg);rw [List.set_set] at hd;rw [<- mixZ_set hq];exact hd
   have hc0:∀ W,wr.grownBy W none->W.cell? ⟨g,j*4,none⟩=some (.string q.1.own)∧W.cell? ⟨g,j*4+1,none⟩=some (.int .i64 q.1.ty)∧W.cell? ⟨g,j*4+2,none⟩=some (.int .i64 q.1.tt)∧W.cell? ⟨g,j*4+3,none⟩=some (.slice qa q.1.da.length qc):=by
    have ho:=hz.outer;rw [hlen9] at ho;have c0:=(ho.cellAt (j*4) (by omega)).trans (zpVs_at _ j 0 q hmx (by decide));have c1:=(ho.cellAt (j*4+1) (by omega)).trans (zpVs_at _ j 1 q hmx (by decide));have c2:=(ho.cellAt (j*4+2) (by omega)).trans (zpVs_at _ j 2 q hmx (by decide));have c3:=(ho.cellAt (j*4+3) (by omega)).trans (zpVs_at _ j 3 q hmx (by decide));rw [<- eq];intro W hW;have hk:=fun(i:Nat)=>World.cell?_of_block (w:=wr) (w':=W) (a:=⟨g,i,none⟩) (hW.block g (World.block_lt_of_cell? wr _ c0) (by simp))
    exact⟨(hk _).trans c0,(hk _).trans c1,(hk _).trans c2,(hk _).trans c3⟩
   have hfz:∀ W i,wr.grownBy W none->W.frozen? ⟨g,i,none⟩=false:=by
    intro W i hW;have ho:=own_besideZ hz.outer hW (fun g e=>by cases e);rw [hlen9] at ho;exact ho.frozenAt i
   have hgq:g∈zfp (.slice (some ⟨g,0,none⟩) qs.length cap) qs:=by simp [zfp,Value.ownBlock]
   have hqq:∀ g',q.2.ownBlock=some g'->g'∈zfp (.slice (some ⟨g,0,none⟩) qs.length cap) qs:=fun g' e=>by
    simp only [zfp,List.mem_append,List.mem_flatMap];exact .inr ⟨q,List.mem_of_getElem? hq,by rw [e];simp⟩
   have hstores:∀ W,Below wr.heap.size wr W->ZOwn (((W.setCell ⟨g,j*4,none⟩ (.string (mkS (k+zl (qs.take j))))).setCell ⟨g,j*4+1,none⟩ (.int .i64 ((k:Int)+(zl (qs.take j):Int)+1))).setCell ⟨g,j*4+2,none⟩ (.int .i64 ((k:Int)+(zl (qs.take j):Int)+1+1))) B (.slice (some ⟨g,0,none⟩) qs.length cap) (((mkZ k qs).take j++qs.drop j).set j (⟨mkS (k+zl (qs.take j)),((k+zl (qs.take j)+1:Nat):Int),((k+zl (qs.take j)+2:Nat):Int),q.1.da⟩,q.2)):=by
    intro W hW;have z1:=hz.below hW;have zA:=ZOwn.cell (i:=0) (y:=.string (mkS (k+zl (qs.take j)))) (q:=(⟨mkS (k+zl (qs.take j)),q.1.ty,q.1.tt,q.1.da⟩,q.2)) z1 hlen9.symm hmx (by decide) rfl rfl rfl
    have gA:(((mkZ k qs).take j++qs.drop j).set j (⟨mkS (k+zl (qs.take j)),q.1.ty,q.1.tt,q.1.da⟩,q.2))[j]? =some (⟨mkS (k+zl (qs.take j)),q.1.ty,q.1.tt,q.1.da⟩,q.2):=by
     rw [List.getElem?_set];simp only [if_true];rw [if_pos (by omega)]
    have zB:=ZOwn.cell (i:=1) (y:=.int .i64 ((k:Int)+(zl (qs.take j):Int)+1)) (q:=(⟨mkS (k+zl (qs.take j)),(k:Int)+(zl (qs.take j):Int)+1,q.1.tt,q.1.da⟩,q.2)) zA (by rw [List.length_set,hlen9]) gA (by decide) rfl rfl rfl;rw [List.set_set] at zB
    have gB:(((mkZ k qs).take j++qs.drop j).set j (⟨mkS (k+zl (qs.take j)),(k:Int)+(zl (qs.take j):Int)+1,q.1.tt,q.1.da⟩,q.2))[j]? =some (⟨mkS (k+zl (qs.take j)),(k:Int)+(zl (qs.take j):Int)+1,q.1.tt,q.1.da⟩,q.2):=by
     rw [List.getElem?_set];simp only [if_true];rw [if_pos (by omega)]
    have zC:=ZOwn.cell (i:=2) (y:=.int .i64 ((k:Int)+(zl (qs.take j):Int)+1+1)) (q:=(⟨mkS (k+zl (qs.take j)),(k:Int)+(zl (qs.take j):Int)+1,(k:Int)+(zl (qs.take j):Int)+1+1,q.1.da⟩,q.2)) zB (by rw [List.length_set,hlen9]) gB (by decide) rfl rfl rfl;rw [List.set_set] at zC;rw [show((k+zl (qs.take j)+1:Nat):Int)=(k:Int)+(zl (qs.take j):Int)+1 by omega,show((k+zl (qs.take j)+2:Nat):Int)=(k:Int)+(zl (qs.take j):Int)+1+1 by omega];exact zC
   have HH:=Nm.hide (And.intro hstores (And.intro hms (And.intro hc0 (And.intro hfz (And.intro hgq (And.intro hqq hou))))));have i1:(0:Int)<=(j:Int):=by omega
   have i2:(j:Int)<(qs.length:Int):=by omega
   have hzb:zl (qs.take j)<=400000:=by omega
   clear hstores hms hc0 hfz hgq hqq hou hz hmx hin eq hlen9 hmt hq hst;generalize hz0:zl (qs.take j)=z0 at*;have HZ0:=Nm.hide hz0;clear hz0;generalize hz1:zl (qs.take (j+1))=z1 at*;have HZ1:=Nm.hide hz1;clear hz1
   go_wp2_with (first
    |(go_at_call 63
      refine hone.mono ?_;rintro e w1 ⟨rfl,hb1⟩;have hgn:=grown_none hb1;obtain⟨c0,c1,c2,c3⟩:=HH.out.2.2.1 w1 hgn
      have f1:=fun i=>HH.out.2.2.2.1 w1 i hgn)
    |(go_at_call 64
      refine(HH.out.2.1 _ (HH.out.1 w1 hb1)).mono ?_
      rintro e w5 ⟨rfl,hz5,hg5⟩))
   go_roundw
   case rel=>
    refine⟨j+1,by omega,by go_num,by rw [HZ1.out],hz5,?_⟩;have o1:=HH.out.2.2.2.2.2.2.trans (Outs.below (fp:=zfp (.slice (some ⟨g,0,none⟩) qs.length cap) qs) hb1) (fun k hk=>.inl hk);have gm:∀ g',some g=some g'->g'∈zfp (.slice (some ⟨g,0,none⟩) qs.length cap) qs:=fun g' e=>by cases e;exact HH.out.2.2.2.2.1
    exact gr_outs (gr_outs (gr_outs (gr_outs o1 (gr_set _ g _ _) gm) (gr_set _ g _ _) gm) (gr_set _ g _ _) gm) hg5 HH.out.2.2.2.2.2.1
   case measure=>simp [intOf];omega
  ·have hjn:j=qs.length:=by omega
   subst hjn;rw [List.drop_length,List.append_nil,List.take_of_length_le (by rw [mkZ_len];exact Nat.le_refl _)] at hz;clear hmt;have i2:(qs.length:Int)<=(qs.length:Int):=by omega
   rw [List.take_length];go_wp2;go_ret;exact⟨by rw [show((k+zl qs:Nat):Int)=(k:Int)+(zl qs:Int) by omega];rfl,hz,hou⟩
end Go.Proofs.YtcodajnebegdiaaGreat
