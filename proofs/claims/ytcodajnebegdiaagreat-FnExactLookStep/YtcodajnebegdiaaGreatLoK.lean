import Derived.Test.YtcodajnebegdiaaGreatJLoT
import Derived.Test.YtcodajnebegdiaaGreatJCzM
import Derived.Test.YtcodajnebegdiaaGreatJZbB
namespace Go.Proofs.YtcodajnebegdiaaGreat
open Go.RowKit
set_option linter.unusedVariables false
theorem ts_tz{os:List GOw}{o:ByteArray}{al lab:List ByteArray}{t:Int}{w w':World}{e:Ending}(hT:TZ os o al)(hg:Gl lab)(h:TsP os lab t w e w'):FsP (fndZ (zoneT os) (joB lab) t) w e w':=by
 rcases h with⟨c,s,hc,hs,h1,h2,h3⟩|⟨h1,h3⟩
 ·rw [hT.fnd hg.jo hc hs h1 h2];exact h3
 ·rw [fnd_no hg.jo hT.nm h1];exact h3
theorem at_len{os:List GOw}(hd:TrS os)(y:List ByteArray)(q:Int):(atT os y q).ss.length<=400001:=by
 rw [atT];split
 ·cases hp:os[posOf (oCmp y) os]? with
  |none=>simp
  |some c=>
   have h1:=(hd.2 c (List.mem_of_getElem? hp)).2.1
   show(atG c q).ss.length<=400001
   rw [atG];split
   ·have h2:=List.length_filter_le (fun s:GSe=>decide (q=s.ty)||decide (q=255)) c.ss;simp only [setsT,List.length_map];omega
   ·cases c.ss.find? fun s=>decide (s.ty=5)<;>simp
 ·simp
set_option maxRecDepth 100000 in
set_option maxHeartbeats 3200000 in
theorem look_any(bb oo th:Nat)(rv:Value)(os:List GOw)(B:Nat)(na:Option Addr)(nc:Nat)(lab:List ByteArray)(o name:ByteArray)(aa:Option Addr)(ac:Nat)(al:List ByteArray)(q:Int)(w:World)(hT:TZ os o al)(h:TrAt w B th rv os)(hl:os.length<=500000)(hd:TrS os)(hLab:LabAt w (fpT th rv os) os)(hn:Nm.SRow w (.slice na lab.length nc) lab)(hgl:Gl lab)(hj:joB lab=name)(hc:w.cell? ⟨bb,oo+1,none⟩=some (ptr th))(hca:w.cell? ⟨bb,oo,none⟩=some (.slice aa al.length ac))(ha:Nm.SRow w (.slice aa al.length ac) al)(hal:al.length<=1000)(hbb:bb<w.heap.size)
 (hne:∀ c∈os,∀ s∈c.ss,0<s.da.length∧(hdB (szT (c,s)).da).size<=1000000000) (h39:∀ c∈os,∀ s∈c.ss,s.ty=39->∃ zs,Nm.split (hdB (szT (c,s)).da)=some zs):
 Calls Tryz.prog 25 #[.pointer (some ⟨bb,oo,none⟩),.slice na lab.length nc,.int .i64 q] w (SoP (lkT os al lab name q) w):=by
 have hll:lab.length<=254:=Nat.le_trans (Nm.length_le_wsum lab) hgl.2;have b0:=(Below.refl w.heap.size w).alloc (Nat.le_refl _) (.cells st0A 28);have k0:=blk_new w st0A 28;have HTr:Hid (∀ W,Below w.heap.size w W->TrAt W B th rv os∧LabAt W (fpT th rv os) os):=fun W hW=>⟨h.below hW,fun o ho=>(hLab o ho).outs (Outs.below hW) (fun b hb=>.inl hb)⟩
 have HC:Hid (∀ W,Below w.heap.size w W->W.cell? ⟨bb,oo,none⟩=some (.slice aa al.length ac)∧W.cell? ⟨bb,oo+1,none⟩=some (ptr th)):=fun W hW=>⟨by rw [<- hca];exact hW.cell (p:=⟨bb,oo,none⟩) hbb,by rw [<- hc];exact hW.cell (p:=⟨bb,oo+1,none⟩) hbb⟩
 have HU:Hid (∀ W,Below w.heap.size w W->Calls Tryz.prog 52 #[.slice na lab.length nc,.slice aa al.length ac] W fun e w'=>e=.returned (.bool (underB lab al))∧Below W.heap.size W w'):=fun W hW=>(under_any _ _ lab al W (hn.below hW) (ha.below hW) (fun x hx=>by have:=(hgl.1 x hx).2;omega) (by omega) (by omega)).mono (by rintro e w' ⟨he,m,rfl⟩;exact⟨he,Go.below_drewN (Below.refl _ _) _⟩)
 have HL:Hid (underB lab al=true->∀ W,Below w.heap.size w W->Calls Tryz.prog 55 #[.pointer (some ⟨bb,oo,none⟩),.slice na lab.length nc] W fun e w'=>∃ v,e=.returned v∧Nm.SRow w' v (cloT os lab)∧Below W.heap.size W w'):=fun hu W hW=>treeClosest_any bb oo th rv os B _ lab W (HTr.out W hW).1 hl hd (HTr.out W hW).2 (hn.below hW) (by omega) (HC.out W hW).2 (by have:=hW.size;omega) (hT.hex hu)
 have HX:Hid (underB lab al=true->∀ W,Below w.heap.size w W->Calls Tryz.prog 53 #[.pointer (some ⟨bb,oo,none⟩),.slice na lab.length nc] W fun e w'=>e=.returned (cutV (cutT os lab (lab.length-al.length)))∧Below W.heap.size W w'):=fun hu W hW=>treeCut_any bb oo th rv os B na nc lab aa al.length ac W (HTr.out W hW).1 hl hd (HTr.out W hW).2 (hn.below hW) (by omega) (HC.out W hW).2 (HC.out W hW).1 (by have:=hW.size;omega) (under_iff.1 hu).1
 have HA:Hid (∀ W,Below w.heap.size w W->∀ a n c y,Nm.SRow W (.slice a n c) y->y.length<=1000->Calls Tryz.prog 56 #[.pointer (some ⟨bb,oo,none⟩),.slice a n c,.int .i64 q] W (SoP (atT os y q) W)):=fun W hW a n c y hy hyl=>lookAt_any bb oo th rv os B a n c y q W (HTr.out W hW).1 hl hd (HTr.out W hW).2 hy hyl (HC.out W hW).2 (by have:=hW.size;omega) hne
 have HS:Hid (∀ c∈os,∀ W,Below w.heap.size w W->Calls Tryz.prog 54 #[.pointer (some ⟨c.blk,0,none⟩),.int .i64 2] W fun e W'=>∃ v ps,e=.returned v∧ps.map (·.1)=setsT c 2∧ZOwn W' W.heap.size v ps∧Below W.heap.size W W'):=fun c hcm W hW=>setsFor_any c 2 B W ((HTr.out W hW).1.owners c hcm) (by have:=(hd.2 c hcm).2.1;omega) (hd.2 c hcm).1 (fun s hs=>by have:=((hd.2 c hcm).2.2 s hs).2;omega)
 have HF:Hid (∀ W,Below w.heap.size w W->∀ a n c y,Nm.SRow W (.slice a n c) y->Gl y->Calls Tryz.prog 57 #[.pointer (some ⟨bb,oo,none⟩),.slice a n c,.int .i64 39] W (FsP (fndZ (zoneT os) (joB y) 39) W)):=fun W hW a n c y hy hgy=>(treeSet_any bb oo th rv os B a n c y 39 W (HTr.out W hW).1 hl hd (HTr.out W hW).2 hy (by have:=Nm.length_le_wsum y;have:=hgy.2;omega) (HC.out W hW).2 (by have:=hW.size;omega)).mono (fun _ _ hp=>ts_tz hT hgy hp)
 have HI:Hid (∀ W,Below w.heap.size w W->∀ a n c y,Nm.SRow W (.slice a n c) y->y.length<=1000->Calls Tryz.prog 60 #[.pointer (some ⟨bb,oo,none⟩),.slice a n c] W fun e w'=>e=.returned (.bool (thT y os))∧Below W.heap.size W w'):=fun W hW a n c y hy hyl=>isThere_any bb oo th rv os B a n c y W (HTr.out W hW).1 hl hd (HTr.out W hW).2 hy (by omega) (HC.out W hW).2 (by have:=hW.size;omega)
 have HN:Hid (∀ W,Below w.heap.size w W->Nm.SRow W (.slice na lab.length nc) lab):=fun W hW=>hn.below hW
 obtain⟨R,hR⟩:∃ R,R=lkT os al lab name q:=⟨_,rfl⟩;rw [<- hR];rw [lkT] at hR;unfold ptr at HC;have hu0:=HU.out _ b0;obtain⟨c0,c1⟩:=HC.out _ b0;obtain⟨W0,hW0⟩:∃ W0,w.alloc (.cells st0A 28)=W0:=⟨_,rfl⟩;rw [hW0] at b0 k0 hu0 c0 c1;have hal2:=at_len hd;clear h hd hLab hn hc hca ha HU HTr
 cases hub:underB lab al with
 |false=>
  rw [hub,if_neg (by decide)] at hR;rw [hub] at hu0;subst hR;clear hub HL HX HA HS HF HI;go_enter Tryz.func25,Tryz.ntmps25;go_wp2_with fail
  refine hu0.mono ?_;rintro e w1 ⟨rfl,b1⟩;have bw1:=Nm.below_two b0 b1;have k1:=blk_below k0 b1;have hg2:w.heap.size<w1.heap.size:=blk_lt k1;obtain⟨kX,hX1,hX2⟩:=step_store (k:=1) (b:=false) (t:=⟨#[]⟩) k1 rfl (ZOwn.nil _ _) hg2 (Nat.le_refl _) bw1;have HX:Hid (List.map (·.1) ([]:List Zp)=(stp 1).ss∧ZOwn _ _ _ ([]:List Zp)∧Below _ _ _):=⟨rfl,hX1,hX2⟩;have rk:=fun i=>blk_cell k1 i
  have fk:=fun i=>blk_frozen k1 i
  clear hu0 k0 c0 c1 hX1 hX2;simp only [setAll,Nat.reduceAdd,Nat.zero_add] at kX HX;have rX:=fun i=>blk_cell kX i
  clear kX;go_wp2_with fail
  refine bodyPost_ret (v:=.agg #[.int .i64 1,(.slice none 0 0),.bool false,.string ⟨#[]⟩]) ?_ rfl ⟨_,_,rfl,HX.out.1,HX.out.2.1,HX.out.2.2⟩
  simp [results,Tryz.f25,go_sem,rX]
 |true=>
  rw [hub,if_pos rfl] at hR;rw [hub] at hu0
  replace HL:=Nm.hide (HL.out hub)
  replace HX:=Nm.hide (HX.out hub)
  rcases cut_some (lab:=lab) hT.srt (lab.length-al.length) with⟨e1,-⟩|⟨m,c,-,e1,hcm,-⟩
  ·rw [e1] at hR HX
   replace hR:R=if(cloT os lab).length=lab.length then atT os lab q else match fndZ (zoneT os) (joB (cloT os lab)) 39 with
    |some s=>tailS s (makeS (lab.take (lab.length-(cloT os lab).length)++(Nm.split (hdB s.da)).getD []))
    |none=>if thT (stL::cloT os lab) os=true then wldS name (atT os (stL::cloT os lab) q) else stp 8:=hR
   obtain⟨kc,hkc,ekc⟩:=hT.clo_at lab hub;have hgc:Gl (cloT os lab):=by rw [ekc];exact hgl.drop kc
   have hcl:(cloT os lab).length<=lab.length:=by rw [ekc,List.length_drop];omega
   have hstar:(cloT os lab).length≠lab.length->Gl (stL::cloT os lab):=fun hne=>by
    rw [ekc];refine gl_star hgl ?_ (by omega)
    rcases Nat.eq_zero_or_pos kc with rfl|h0
    ·rw [ekc,List.drop_zero] at hne;exact absurd rfl hne
    ·exact h0
   clear ekc hkc;generalize cloT os lab=clo at*;simp only [cutV] at HX
   by_cases hcl2:clo.length=lab.length
   ·rw [if_pos hcl2] at hR;have i1:((clo.length:Int)==(lab.length:Int))=true:=by simp [hcl2]
    have hA:=fun W (hW:Below w.heap.size w W)=>HA.out W hW na lab.length nc lab (HN.out W hW) (by omega)
    rw [<- hR] at hA;clear HS HF HI hstar HA hR hal2 hcl;go_enter Tryz.func25,Tryz.ntmps25;go_wp2_with fail
    refine hu0.mono ?_;rintro e w1 ⟨rfl,b1⟩;have bw1:=Nm.below_two b0 b1;have k1:=blk_below k0 b1;clear hu0 k0 c0 c1 b0 b1;go_wp2_with fail
    refine(HX.out _ bw1).mono ?_;rintro e w2 ⟨rfl,b2⟩;have bw2:=Nm.below_two bw1 b2;have k2:=blk_below k1 b2;clear k1 b2 bw1;go_wp2_with fail
    refine(HL.out _ bw2).mono ?_;rintro e w3 ⟨v3,rfl,r3,b3⟩;obtain⟨ca,cc,rfl⟩:∃ a c,v3=.slice a clo.length c:=by(obtain⟨a,c,e,_⟩:=r3;exact⟨a,c,e⟩)
    have bw3:=Nm.below_two bw2 b3;have k3:=blk_below k2 b3;clear k2 b3 bw2 HX HL;go_wp2_with fail
    refine(hA _ bw3).mono ?_;rintro e w4 ⟨v4,ps4,rfl,e4,z4,b4⟩;obtain⟨va,vc,rfl⟩:=own_sl z4.outer;have bw4:=Nm.below_two bw3 b4;have k4:=blk_below k3 b4;have hg2:w.heap.size<w3.heap.size:=blk_lt k3;obtain⟨kX,hX1,hX2⟩:=step_store (k:=R.kd) (b:=R.wild) (t:=R.tgt) k4 rfl z4 hg2 (Nat.le_refl _) bw4;have HX:=Nm.hide (And.intro e4 (And.intro hX1 hX2));have rk:=fun i=>blk_cell k4 i
    have fk:=fun i=>blk_frozen k4 i
    clear k3 b4 bw3 hX1 hX2 z4 e4 hA r3;simp only [setAll,Nat.reduceAdd,Nat.zero_add] at kX HX;have rX:=fun i=>blk_cell kX i
    clear kX;go_wp2_with fail
    refine bodyPost_ret (v:=.agg #[.int .i64 (R.kd),(.slice va ps4.length vc),.bool (R.wild),.string (R.tgt)]) ?_ rfl ⟨_,_,rfl,HX.out.1,HX.out.2.1,HX.out.2.2⟩;simp [results,Tryz.f25,go_sem,rX]
   ·rw [if_neg hcl2] at hR;have i1:((clo.length:Int)==(lab.length:Int))=false:=by simp;omega
    have hlt:clo.length<lab.length:=by omega
    cases hf:fndZ (zoneT os) (joB clo) 39 with
    |some s=>
     obtain⟨⟨d0,rest,hsd⟩,zs,hzq,hds⟩:(∃ d0 rest,s.da=d0::rest)∧∃ zs,Nm.split (hdB s.da)=some zs∧(hdB s.da).size<=1000000000:=by
      have hf':=hf;rw [fndZ] at hf';have hm:=List.mem_of_find?_eq_some hf';have hp:=List.find?_some hf';obtain⟨g,hg1,rfl⟩:=List.mem_map.1 hm;obtain⟨g2,g3⟩:=grT_mem.1 hg1;simp only [Bool.and_eq_true,decide_eq_true_eq] at hp;obtain⟨zs,hz⟩:=h39 g.1 g2 g.2 g3 hp.1;obtain⟨n1,n2⟩:=hne g.1 g2 g.2 g3;refine⟨?_,zs,hz,n2⟩
      cases hda:g.2.da with
      |nil=>rw [hda] at n1;simp at n1
      |cons x r=>exact⟨x.2,r.map (·.2),by simp [szT,hda]⟩
     have hdd:hdB s.da=d0:=by rw [hsd];rfl
     rw [hdd] at hzq hds;rw [hf] at hR
     replace hR:R=tailS s (makeS (lab.take (lab.length-clo.length)++(Nm.split (hdB s.da)).getD [])):=hR
     rw [hdd,hzq,Option.getD_some] at hR;have hF:=fun W (hW:Below w.heap.size w W) a n c (hy:Nm.SRow W (.slice a n c) clo)=>(HF.out W hW a n c clo hy hgc).mono (R':=fun e w'=>∃ v,e=.returned (.tuple #[.agg #[.string s.own,.int .i64 s.ty,.int .i64 s.tt,v],.bool true])∧w'.ownsRow W.heap.size 9 1 v s.da.length (s.da.map Value.string)∧Below W.heap.size W w') (fun e w' h=>by rw [hf] at h;exact h)
     have hTs:=fun ca cc u B W (h1:Nm.SRow W (.slice na lab.length nc) lab) h2 h3=>tailStep_any lab clo na ca nc cc s u d0 rest zs B W h1 hgl hlt hsd hzq (by unfold maxLen;omega) h2 h3
     rw [<- hR] at hTs
     obtain⟨hRs,hRw⟩:R.ss=[s]∧R.wild=false:=by
      rw [hR]
      rcases tail_kd s (makeS (lab.take (lab.length-clo.length)++zs)) with⟨-,e⟩|⟨-,e⟩<;>rw [e]<;>exact⟨rfl,rfl⟩
     clear HS HF HI hstar HA hR hal2 hcl hf hdd hzq hds hsd hgc;obtain⟨rkd,rss,rwl,rtg⟩:=R;simp only at hRs hRw hTs
     subst hRs hRw;go_enter Tryz.func25,Tryz.ntmps25;go_wp2_with fail
     refine hu0.mono ?_;rintro e w1 ⟨rfl,b1⟩;have bw1:=Nm.below_two b0 b1;have k1:=blk_below k0 b1;clear hu0 k0 c0 c1 b0 b1;go_wp2_with fail
     refine(HX.out _ bw1).mono ?_;rintro e w2 ⟨rfl,b2⟩;have bw2:=Nm.below_two bw1 b2;have k2:=blk_below k1 b2;clear k1 b2 bw1;go_wp2_with fail
     refine(HL.out _ bw2).mono ?_;rintro e w3 ⟨v3,rfl,r3,b3⟩;obtain⟨ca,cc,rfl⟩:∃ a c,v3=.slice a clo.length c:=by(obtain⟨a,c,e,_⟩:=r3;exact⟨a,c,e⟩)
     have bw3:=Nm.below_two bw2 b3;have k3:=blk_below k2 b3;clear k2 b3 bw2 HX HL;go_wp2_with fail
     refine(hF _ bw3 _ _ _ r3).mono ?_;rintro e w4 ⟨v4,rfl,o4,b4⟩;obtain⟨ua,uc,rfl⟩:=own_sl o4;have cA:=(Below.refl w4.heap.size w4).alloc (Nat.le_refl _) (.cells #[.string s.own,.int .i64 s.ty,.int .i64 s.tt,.slice ua s.da.length uc] 76);have c4:=Nm.below_two b4 cA;have bw4:=Nm.below_two bw3 c4;have k4:=blk_below k3 c4;have o4A:=own_below o4 cA;have hg2:w.heap.size<w3.heap.size:=blk_lt k3;have hTs4:=hTs ca cc _ w3.heap.size _ (HN.out _ bw4) o4A c4.size;clear hTs hF r3 b4 cA k3 bw3 o4 o4A;go_wp2_with fail
     refine hTs4.mono ?_;rintro e w5 ⟨v5,rfl,z5,b5⟩;obtain⟨va,vc,hv5⟩:=own_sl z5.outer;simp only [List.length_cons,List.length_nil,Nat.zero_add] at hv5;subst hv5;have bw5:=Nm.below_two bw4 b5;have k5:=blk_below k4 b5;obtain⟨kX,hX1,hX2⟩:=step_store (k:=rkd) (b:=false) (t:=rtg) k5 rfl z5 hg2 (Nat.le_refl _) bw5;have HX:Hid (List.map (·.1) [(s,Value.slice ua s.da.length uc)]=[s]∧ZOwn _ _ _ [(s,Value.slice ua s.da.length uc)]∧Below _ _ _):=⟨rfl,hX1,hX2⟩;have rk:=fun i=>blk_cell k5 i
     have fk:=fun i=>blk_frozen k5 i
     clear hTs4 k4 b5 bw4 hX1 hX2 z5 c4;simp only [setAll,Nat.reduceAdd,Nat.zero_add] at kX HX;have rX:=fun i=>blk_cell kX i
     clear kX;go_wp2_with fail
     refine bodyPost_ret (v:=.agg #[.int .i64 rkd,(.slice va 1 vc),.bool false,.string rtg]) ?_ rfl ⟨_,_,rfl,HX.out.1,HX.out.2.1,HX.out.2.2⟩
     simp [results,Tryz.f25,go_sem,rX]
    |none=>
     rw [hf] at hR
     replace hR:R=if thT (stL::clo) os=true then wldS name (atT os (stL::clo) q) else stp 8:=hR
     have hF:=fun W (hW:Below w.heap.size w W) a n c (hy:Nm.SRow W (.slice a n c) clo)=>(HF.out W hW a n c clo hy hgc).mono (R':=fun e w'=>∃ v,e=.returned (.tuple #[.agg #[.string ⟨#[]⟩,.int .i64 0,.int .i64 0,v],.bool false])∧(∃ a c,v=.slice a 0 c)∧Below W.heap.size W w') (fun e w' h=>by
      rw [hf] at h;obtain⟨v,h1,h2,h3⟩:=h
      exact⟨v,h1,own_sl h2,h3⟩)
     cases hth:thT (stL::clo) os with
     |true=>
      rw [hth,if_pos rfl] at hR;have hA:=fun W (hW:Below w.heap.size w W) a n c (hy:Nm.SRow W (.slice a n c) (stL::clo))=>HA.out W hW a n c (stL::clo) hy (by simp;omega)
      have hln:=hal2 (stL::clo) q;have hw2:=hgl.2;generalize atT os (stL::clo) q=Y at*;have hE:R=⟨Y.kd,Y.ss.map (ownZ name),true,Y.tgt⟩:=hR;subst hE;clear HS HF HA hR hf hgc hstar hal2 hcl;go_enter Tryz.func25,Tryz.ntmps25;go_wp2_with fail
      refine hu0.mono ?_;rintro e w1 ⟨rfl,b1⟩;have bw1:=Nm.below_two b0 b1;have k1:=blk_below k0 b1;clear hu0 k0 c0 c1 b0 b1;go_wp2_with fail
      refine(HX.out _ bw1).mono ?_;rintro e w2 ⟨rfl,b2⟩;have bw2:=Nm.below_two bw1 b2;have k2:=blk_below k1 b2;clear k1 b2 bw1;go_wp2_with fail
      refine(HL.out _ bw2).mono ?_;rintro e w3 ⟨v3,rfl,r3,b3⟩;obtain⟨ca,cc,rfl⟩:∃ a c,v3=.slice a clo.length c:=by(obtain⟨a,c,e,_⟩:=r3;exact⟨a,c,e⟩)
      have bw3:=Nm.below_two bw2 b3;have k3:=blk_below k2 b3;clear k2 b3 bw2 HX HL;go_wp2_with fail
      refine(hF _ bw3 _ _ _ r3).mono ?_;rintro e w4 ⟨v4,rfl,⟨ua,uc,rfl⟩,b4⟩;have cA:=(Below.refl w4.heap.size w4).alloc (Nat.le_refl _) (.cells #[.string ⟨#[]⟩,.int .i64 0,.int .i64 0,.slice ua 0 uc] 76);have c4:=Nm.below_two b4 cA;have bw4:=Nm.below_two bw3 c4;have k4:=blk_below k3 c4;have r4:=r3.below c4;obtain⟨W4,hW4⟩:∃ W4,w4.alloc (.cells #[.string ⟨#[]⟩,.int .i64 0,.int .i64 0,.slice ua 0 uc] 76)=W4:=⟨_,rfl⟩;rw [hW4] at c4 bw4 k4 r4;have o5:=World.ownsRow_lit (base:=w.heap.size) (e:=9) (size:=1) W4 #[.string stL] 1 bw4.size (by decide) rfl;have cB:=(Below.refl W4.heap.size W4).alloc (Nat.le_refl _) (.cells #[.string stL] 9);have bw5:=Nm.below_two bw4 cB;have k5:=blk_below k4 cB;have hjn:=join_any _ _ [stL] clo _ (Nm.SRow.of_owns (ls:=[stL]) o5) (r4.below cB) (by simp) (by omega);clear r3 b4 cA k3 bw3 r4 c4 k4 bw4 cB o5 hF;go_wp2_with fail
      refine hjn.mono ?_;rintro e w6 ⟨t6,rfl,o6,b6⟩;have r6:Nm.SRow w6 t6 (stL::clo):=Nm.SRow.of_owns o6;obtain⟨ta,m6,tc,rfl⟩:∃ a m c,t6=.slice a m c:=by(obtain⟨a,c,e⟩:=own_sl o6;exact⟨a,_,c,e⟩)
      have bw6:=Nm.below_two bw5 b6;have k6:=blk_below k5 b6;have hit:=HI.out _ bw6 ta m6 tc (stL::clo) r6 (by simp;omega);rw [hth] at hit;clear k5 bw5 b6 hjn o6 HI;go_wp2_with fail
      refine hit.mono ?_;rintro e w7 ⟨rfl,b7⟩;have bw7:=Nm.below_two bw6 b7;have k7:=blk_below k6 b7;have r7:=r6.below b7;clear hit k6 bw6 b7 r6;go_wp2_with fail
      refine(hA _ bw7 _ _ _ r7).mono ?_;rintro e w8 ⟨v8,ps8,rfl,e8,z8,b8⟩;obtain⟨va,vc,rfl⟩:=own_sl z8.outer;have bw8:=Nm.below_two bw7 b8;have k8:=blk_below k7 b8;have hg2:w.heap.size<w7.heap.size:=blk_lt k7;have hpl:ps8.length<=1000000:=by rw [<- e8,List.length_map] at hln;omega
      have haw:=asWild_any Y.kd Y.wild Y.tgt name _ ps8 w7.heap.size (.slice na lab.length nc) lab w8 (fun X hX=>HN.out X (bw8.trans (hX.mono (by omega)))) hw2 hj z8 b8.size hpl;clear hA k7 r7 b8 hln z8;go_wp2_with fail
      refine haw.mono ?_;rintro e w9 ⟨ps9,rfl,e9,z9,b9⟩;have hpe:ps9.length=ps8.length:=by have:=congrArg List.length e9;simpa using this
      have e9':ps9.map (·.1)=Y.ss.map (ownZ name):=by rw [e9,e8]
      have bw9:Below w.heap.size w w9:=bw8.trans (b9.mono (by omega));have k9:Blk w9 w.heap.size st0A 28:=(b9.block _ hg2).trans k8;obtain⟨kX,hX1,hX2⟩:=step_store (k:=Y.kd) (b:=true) (t:=Y.tgt) k9 rfl z9 hg2 (Nat.le_refl _) bw9;have HX:=Nm.hide (And.intro e9' (And.intro hX1 hX2));have rk:=fun i=>blk_cell k9 i
      have fk:=fun i=>blk_frozen k9 i
      clear haw k8 b9 bw8 hX1 hX2 z9 e9 e9' e8 hpe hpl;simp only [setAll,Nat.reduceAdd,Nat.zero_add] at kX HX;have rX:=fun i=>blk_cell kX i
      clear kX;go_wp2_with fail
      refine bodyPost_ret (v:=.agg #[.int .i64 (Y.kd),(.slice va ps8.length vc),.bool true,.string (Y.tgt)]) ?_ rfl ⟨_,_,rfl,HX.out.1,HX.out.2.1,HX.out.2.2⟩
      simp [results,Tryz.f25,go_sem,rX]
     |false=>
      rw [hth,if_neg (by decide)] at hR;subst hR;clear HS HF HA hf hgc hstar hal2 hcl;go_enter Tryz.func25,Tryz.ntmps25;go_wp2_with fail
      refine hu0.mono ?_;rintro e w1 ⟨rfl,b1⟩;have bw1:=Nm.below_two b0 b1;have k1:=blk_below k0 b1;clear hu0 k0 c0 c1 b0 b1;go_wp2_with fail
      refine(HX.out _ bw1).mono ?_;rintro e w2 ⟨rfl,b2⟩;have bw2:=Nm.below_two bw1 b2;have k2:=blk_below k1 b2;clear k1 b2 bw1;go_wp2_with fail
      refine(HL.out _ bw2).mono ?_;rintro e w3 ⟨v3,rfl,r3,b3⟩;obtain⟨ca,cc,rfl⟩:∃ a c,v3=.slice a clo.length c:=by(obtain⟨a,c,e,_⟩:=r3;exact⟨a,c,e⟩)
      have bw3:=Nm.below_two bw2 b3;have k3:=blk_below k2 b3;clear k2 b3 bw2 HX HL;go_wp2_with fail
      refine(hF _ bw3 _ _ _ r3).mono ?_;rintro e w4 ⟨v4,rfl,⟨ua,uc,rfl⟩,b4⟩;have cA:=(Below.refl w4.heap.size w4).alloc (Nat.le_refl _) (.cells #[.string ⟨#[]⟩,.int .i64 0,.int .i64 0,.slice ua 0 uc] 76);have c4:=Nm.below_two b4 cA;have bw4:=Nm.below_two bw3 c4;have k4:=blk_below k3 c4;have r4:=r3.below c4;obtain⟨W4,hW4⟩:∃ W4,w4.alloc (.cells #[.string ⟨#[]⟩,.int .i64 0,.int .i64 0,.slice ua 0 uc] 76)=W4:=⟨_,rfl⟩;rw [hW4] at c4 bw4 k4 r4;have o5:=World.ownsRow_lit (base:=w.heap.size) (e:=9) (size:=1) W4 #[.string stL] 1 bw4.size (by decide) rfl;have cB:=(Below.refl W4.heap.size W4).alloc (Nat.le_refl _) (.cells #[.string stL] 9);have bw5:=Nm.below_two bw4 cB;have k5:=blk_below k4 cB;have hjn:=join_any _ _ [stL] clo _ (Nm.SRow.of_owns (ls:=[stL]) o5) (r4.below cB) (by simp) (by omega);clear r3 b4 cA k3 bw3 r4 c4 k4 bw4 cB o5 hF;go_wp2_with fail
      refine hjn.mono ?_;rintro e w6 ⟨t6,rfl,o6,b6⟩;have r6:Nm.SRow w6 t6 (stL::clo):=Nm.SRow.of_owns o6;obtain⟨ta,m6,tc,rfl⟩:∃ a m c,t6=.slice a m c:=by(obtain⟨a,c,e⟩:=own_sl o6;exact⟨a,_,c,e⟩)
      have bw6:=Nm.below_two bw5 b6;have k6:=blk_below k5 b6;have hit:=HI.out _ bw6 ta m6 tc (stL::clo) r6 (by simp;omega);rw [hth] at hit;clear k5 bw5 b6 hjn o6 HI;go_wp2_with fail
      refine hit.mono ?_;rintro e w7 ⟨rfl,b7⟩;have bw7:=Nm.below_two bw6 b7;have k7:=blk_below k6 b7;have r7:=r6.below b7;clear hit k6 bw6 b7 r6;have hg2:w.heap.size<w7.heap.size:=blk_lt k7;obtain⟨kX,hX1,hX2⟩:=step_store (k:=8) (b:=false) (t:=⟨#[]⟩) k7 rfl (ZOwn.nil _ _) hg2 (Nat.le_refl _) bw7;have HX:Hid (List.map (·.1) ([]:List Zp)=(stp 8).ss∧ZOwn _ _ _ ([]:List Zp)∧Below _ _ _):=⟨rfl,hX1,hX2⟩;have rk:=fun i=>blk_cell k7 i
      have fk:=fun i=>blk_frozen k7 i
      clear hX1 hX2 r7;simp only [setAll,Nat.reduceAdd,Nat.zero_add] at kX HX;have rX:=fun i=>blk_cell kX i
      clear kX;go_wp2_with fail
      refine bodyPost_ret (v:=.agg #[.int .i64 8,(.slice none 0 0),.bool false,.string ⟨#[]⟩]) ?_ rfl ⟨_,_,rfl,HX.out.1,HX.out.2.1,HX.out.2.2⟩;simp [results,Tryz.f25,go_sem,rX]
  ·rw [e1] at hR HX;have hE:R=⟨2,setsT c 2,false,⟨#[]⟩⟩:=hR;subst hE;have hsf:=HS.out c hcm;simp only [cutV] at HX;unfold ptr at HX;clear hub HL HA HS HF HI hR;go_enter Tryz.func25,Tryz.ntmps25;go_wp2_with fail
   refine hu0.mono ?_;rintro e w1 ⟨rfl,b1⟩;have bw1:=Nm.below_two b0 b1;have k1:=blk_below k0 b1;clear hu0 k0 c0 c1 b0 b1;go_wp2_with fail
   refine(HX.out _ bw1).mono ?_;rintro e w2 ⟨rfl,b2⟩;have bw2:=Nm.below_two bw1 b2;have k2:=blk_below k1 b2;clear k1 b2 bw1;go_wp2_with fail
   refine(hsf _ bw2).mono ?_;rintro e w3 ⟨v3,ps3,rfl,e3,z3,b3⟩;obtain⟨va,vc,rfl⟩:=own_sl z3.outer;have bw3:=Nm.below_two bw2 b3;have k3:=blk_below k2 b3;have hg2:w.heap.size<w2.heap.size:=blk_lt k2;obtain⟨kX,hX1,hX2⟩:=step_store (k:=2) (b:=false) (t:=⟨#[]⟩) k3 rfl z3 hg2 (Nat.le_refl _) bw3;have HX:=Nm.hide (And.intro e3 (And.intro hX1 hX2));have rk:=fun i=>blk_cell k3 i
   have fk:=fun i=>blk_frozen k3 i
   clear k2 b3 bw2 hX1 hX2 z3 e3;simp only [setAll,Nat.reduceAdd,Nat.zero_add] at kX HX;have rX:=fun i=>blk_cell kX i
   clear kX;go_wp2_with fail
   refine bodyPost_ret (v:=.agg #[.int .i64 2,(.slice va ps3.length vc),.bool false,.string ⟨#[]⟩]) ?_ rfl ⟨_,_,rfl,HX.out.1,HX.out.2.1,HX.out.2.2⟩;simp [results,Tryz.f25,go_sem,rX]
end Go.Proofs.YtcodajnebegdiaaGreat
