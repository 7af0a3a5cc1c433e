import Derived.Test.YtahpiciofdfipaaGreatJFnN
namespace Go.Proofs.YtahpiciofdfipaaGreat
open Go.RowKit
set_option linter.unusedVariables false
set_option maxRecDepth 100000 in
set_option maxHeartbeats 3200000 in
theorem treeNode_any(bb oo th:Nat)(rv:Value)(os:List GOw)(B:Nat)(na:Option Addr)(nc:Nat)(lab:List ByteArray)(aa:Option Addr)(ac:Nat)(al:List ByteArray)(w:World)(h:TrAt w B th rv os)(hl:os.length<=500000)(hd:TrS os)(hLab:LabAt w (fpT th rv os) os)(hn:Nm.SRow w (.slice na lab.length nc) lab)(hgl:Gl lab)(hc:w.cell? ⟨bb,oo+1,none⟩=some (ptr th))(hca:w.cell? ⟨bb,oo,none⟩=some (.slice aa al.length ac))(ha:Nm.SRow w (.slice aa al.length ac) al)(hal:al.length<=1000)(hbb:bb<w.heap.size)(hex:underB lab al=true->∃ j,j<=lab.length∧thT (lab.drop j) os=true):
 Calls Tryz.prog 22 #[.pointer (some ⟨bb,oo,none⟩),.slice na lab.length nc] w (NdV (ndT os al lab) w):=by
 have hll:lab.length<=254:=Nat.le_trans (Nm.length_le_wsum lab) hgl.2;have b0:=(Below.refl w.heap.size w).alloc (Nat.le_refl _) (.cells #[.int .i64 0,.string ⟨#[]⟩,.string ⟨#[]⟩,.slice none 0 0] 32);have k0:=blk_new w #[.int .i64 0,.string ⟨#[]⟩,.string ⟨#[]⟩,.slice none 0 0] 32;have HTr:Hid (∀ W,Below w.heap.size w W->TrAt W B th rv os∧LabAt W (fpT th rv os) os):=fun W hW=>⟨h.below hW,fun o ho=>(hLab o ho).outs (Outs.below hW) (fun b hb=>.inl hb)⟩
 have HC:Hid (∀ W,Below w.heap.size w W->W.cell? ⟨bb,oo,none⟩=some (.slice aa al.length ac)∧W.cell? ⟨bb,oo+1,none⟩=some (ptr th)):=fun W hW=>⟨by rw [<- hca];exact hW.cell (p:=⟨bb,oo,none⟩) hbb,by rw [<- hc];exact hW.cell (p:=⟨bb,oo+1,none⟩) hbb⟩
 have HU:Hid (∀ W,Below w.heap.size w W->Calls Tryz.prog 51 #[.slice na lab.length nc,.slice aa al.length ac] W fun e w'=>e=.returned (.bool (underB lab al))∧Below W.heap.size W w'):=fun W hW=>(under_any _ _ lab al W (hn.below hW) (ha.below hW) (fun x hx=>by have:=(hgl.1 x hx).2;omega) (by omega) (by omega)).mono (by rintro e w' ⟨he,m,rfl⟩;exact⟨he,Go.below_drewN (Below.refl _ _) _⟩)
 have HL:Hid (underB lab al=true->∀ W,Below w.heap.size w W->Calls Tryz.prog 52 #[.pointer (some ⟨bb,oo,none⟩),.slice na lab.length nc] W fun e w'=>∃ v,e=.returned v∧Nm.SRow w' v (cloT os lab)∧Below W.heap.size W w'):=fun hu W hW=>treeClosest_any bb oo th rv os B _ lab W (HTr.out W hW).1 hl hd (HTr.out W hW).2 (hn.below hW) (by omega) (HC.out W hW).2 (by have:=hW.size;omega) (hex hu)
 obtain⟨kc,hkc,ekc⟩:=clo_drop os lab;have hgc:Gl (cloT os lab):=by rw [ekc];exact hgl.drop kc
 have HW:Hid (∀ v W,Nm.SRow W v (cloT os lab)->Calls Tryz.prog 53 #[v] W fun e w'=>e=.returned (.tuple #[.string (joB (cloT os lab)),.int .i64 0])∧Below W.heap.size W w'):=fun v W hv=>by
  have:=wire_any v (cloT os lab) W hv (by have:=hgc.2;omega)
  rwa [wireS_short hgc.2,wireC_short hgc.2] at this
 have HG:Hid (∀ W,Below w.heap.size w W->Calls Tryz.prog 54 #[ptr th,.slice na lab.length nc] W fun e w'=>Below W.heap.size W w'∧((isIn (oCmp lab) os=true∧∃ o,os[posOf (oCmp lab) os]? =some o∧Nm.cmpLs o.lab lab=0∧e=.returned (.tuple #[ptr o.blk,.bool true]))∨(isIn (oCmp lab) os=false∧e=.returned (.tuple #[.pointer none,.bool false])))):=fun W hW=>getOwner_any th rv os B _ lab W (HTr.out W hW).1 hl hd.1 (HTr.out W hW).2 (hn.below hW) (by omega)
 have HK:Hid (∀ q∈os,∀ W,Below w.heap.size w W->W.cell? ⟨q.blk,2,none⟩=some (ptr q.hd)∧Calls Tryz.prog 55 #[.pointer (some ⟨q.hd,0,none⟩)] W fun e W'=>∃ v,e=.returned v∧W'.ownsRow W.heap.size 2 1 v (q.ss.map (·.ty)).length (intCells (q.ss.map (·.ty)))∧Below W.heap.size W W'):=fun q hq W hW=>by
  have ho:=(HTr.out W hW).1.owners q hq;refine⟨(blk_cell ho.node 2).trans rfl,?_⟩;have hrow:=ho.rows;rw [show(seRs q.ss).length=q.ss.length by simp [seRs]] at hrow;refine(keysOf_any q.hd q.rv q.ss (by have:=(hd.2 q hq).2.1;omega) W (blk_lt ho.head) ((blk_cell ho.head 1).trans rfl) (rwsI_own _ _ q.ss hrow)).mono ?_;rintro e W' ⟨v,rfl,h1,h2⟩;refine⟨v,rfl,?_,h2⟩;rw [List.length_map,intCells,List.map_map];exact h1
 have HX:Hid (underB lab al=true->∀ W,Below w.heap.size w W->Calls Tryz.prog 56 #[.pointer (some ⟨bb,oo,none⟩),.slice na lab.length nc] W fun e w'=>e=.returned (cutV (cutT os lab (lab.length-al.length)))∧Below W.heap.size W w'):=fun hu W hW=>treeCut_any bb oo th rv os B na nc lab aa al.length ac W (HTr.out W hW).1 hl hd (HTr.out W hW).2 (hn.below hW) (by omega) (HC.out W hW).2 (HC.out W hW).1 (by have:=hW.size;omega) (under_iff.1 hu).1
 have HM:Hid (∀ q,cutT os lab (lab.length-al.length)=some q->∀ W,Below w.heap.size w W->W.cell? ⟨q.blk,0,none⟩=some (.string q.nm)∧∃ a c,W.cell? ⟨q.blk,1,none⟩=some (.slice a q.lab.length c)):=fun q hq W hW=>by
  have hqm:q∈os:=by
   rcases cut_some (lab:=lab) ⟨hd.1,fun q hq=>(hd.2 q hq).1⟩ (lab.length-al.length) with⟨c1,-⟩|⟨m,r,-,c2,c3,-⟩
   ·rw [c1] at hq;cases hq
   ·rw [c2] at hq;rw [<- Option.some.inj hq];exact c3
  have ho:=(HTr.out W hW).1.owners q hqm;obtain⟨a,c,e,-⟩:=((HTr.out W hW).2 q hqm).row;exact⟨(blk_cell ho.node 0).trans rfl,a,c,by rw [<- e];exact(blk_cell ho.node 1).trans rfl⟩
 have HTY:Hid (∀ q,isIn (oCmp lab) os=true->os[posOf (oCmp lab) os]? =some q->tyT os lab=q.ss.map (·.ty)):=fun q h1 h2=>by rw [tyT,if_pos h1,h2]
 have HTN:Hid (isIn (oCmp lab) os=false->tyT os lab=[]):=fun h1=>by rw [tyT,if_neg (by rw [h1];decide)]
 obtain⟨R,hR⟩:∃ R,R=ndT os al lab:=⟨_,rfl⟩;rw [<- hR];rw [ndT] at hR;unfold ptr at HC HG HK HTr;have hu0:=HU.out _ b0;obtain⟨c0,c1⟩:=HC.out _ b0;clear h hd hLab hn hc hca ha hex HTr HU ekc
 cases hub:underB lab al with
 |false=>
  rw [hub] at hR hu0;have hR0:R=⟨0,⟨#[]⟩,⟨#[]⟩,[]⟩:=hR;subst hR0;clear hub hR HL HX HG HK HM HTY HTN HW;go_enter Tryz.func22,Tryz.ntmps22;go_wp2_with fail
  refine hu0.mono ?_;rintro e w1 ⟨rfl,b1⟩;have k1:=blk_below k0 b1;have rz:=fun i=>blk_cell k1 i
  have fz:=fun i=>blk_frozen k1 i
  obtain⟨k4,ho4,bw4⟩:=node_store (kd:=0) (x:=⟨#[]⟩) (y:=⟨#[]⟩) k1 (World.ownsRow_nil w1 w.heap.size 2 1) (by simp [Value.ownBlock]) (Nm.below_two b0 b1) (Nat.le_refl _);have rk:=fun i=>blk_cell k4 i
  have HP:Hid (NdV ⟨0,⟨#[]⟩,⟨#[]⟩,[]⟩ w (.returned (.agg #[.int .i64 0,.string ⟨#[]⟩,.string ⟨#[]⟩,.slice none 0 0])) _):=⟨_,rfl,ho4,bw4⟩;clear k0 k1 k4 ho4 bw4 hu0 c0 c1;go_wp2_with fail
  refine bodyPost_ret (v:=.agg #[.int .i64 0,.string ⟨#[]⟩,.string ⟨#[]⟩,.slice none 0 0]) ?_ rfl HP.out
  simp [results,Tryz.f22,go_sem,rk]
 |true=>
  rw [hub] at hR hu0;have HL:=Nm.hide (HL.out hub);have HX:=Nm.hide (HX.out hub);simp only [if_true] at hR;have HR:=Nm.hide hR;clear hub hR;generalize cutT os lab (lab.length-al.length)=CT at*;have hCL:(cloT os lab).length<=254:=Nat.le_trans (Nm.length_le_wsum _) hgc.2;clear hgc;go_enter Tryz.func22,Tryz.ntmps22;go_wp2_with fail
  refine hu0.mono ?_;rintro e w1 ⟨rfl,b1⟩;have bw1:=Nm.below_two b0 b1;have k1:=blk_below k0 b1;clear hu0 c0 c1 k0 b1 b0;go_wp2_with fail
  refine(HL.out _ bw1).mono ?_;rintro e w2 ⟨v2,rfl,hv2,b2⟩;have bw2:=Nm.below_two bw1 b2;have k2:=blk_below k1 b2;obtain⟨va,vc,ev⟩:∃ va vc,v2=.slice va (cloT os lab).length vc:=by obtain⟨a,c,e,_⟩:=hv2;exact⟨a,c,e⟩
  subst ev;have hwi:=HW.out _ (w2.alloc (.cells #[.int .i64 0,.string ⟨#[]⟩,.string ⟨#[]⟩,.slice none 0 0] 32)) (hv2.below ((Below.refl w2.heap.size w2).alloc (Nat.le_refl _) _));clear hv2 k1 bw1 b2 HW HL;generalize joB (cloT os lab)=CB at*;go_wp2_with fail
  refine hwi.mono ?_;rintro e w3 ⟨rfl,b3⟩;have s2:=NdS.start k2 (Nat.le_refl _) bw2 b3;have s3:=NdS.set1 (y:=.string CB) s2;have rp:=fun i=>blk_cell s2.k i
  have fp:=fun i=>blk_frozen s2.k i
  obtain⟨c0,c1⟩:=HC.out _ s3.be;have hg:=HG.out _ s3.be;generalize w2.heap.size=p at*;clear k2 bw2 b3 s2 hwi c0 HG HC;go_wp2_with fail
  refine hg.mono ?_;rintro e w4 ⟨b4,⟨hin,q,hq,hcm,rfl⟩|⟨hin,rfl⟩⟩
  ·have s4:=s3.below b4;have HT:=Nm.hide (HTY.out q hin hq);obtain⟨d2,hk⟩:=HK.out q (List.mem_of_getElem? hq) w4 s4.be;have HI:=Nm.hide hin;clear s3 b4 hg rp fp c1 hin hq hcm HK HTY HTN;go_wp2_with fail
   refine hk.mono ?_;rintro e w5 ⟨u,rfl,hou,b5⟩;have s5:=s4.set3 b5 hou;obtain⟨ua,uc,eu⟩:=own_sl hou;subst eu;have kp:=(s4.below b5).k;have rp:=fun i=>blk_cell kp i
   have fp:=fun i=>blk_frozen kp i
   have hx:=HX.out _ s5.be;clear s4 b5 hk hou kp d2 HX;rw [List.length_map] at*;go_wp2_with fail
   refine hx.mono ?_;rintro e w6 ⟨rfl,b6⟩;have s0:=s5.below b6;clear s5 b6 hx rp fp
   cases CT with
   |none=>
    have hN:R=⟨3,CB,⟨#[]⟩,q.ss.map (·.ty)⟩:=by rw [HR.out,kdT,cutN,HI.out,HT.out];rfl
    clear HR HI HM;simp only [cutV];have sF:=(NdS.set0 (y:=.int .i64 3) s0);have rp:=fun i=>blk_cell s0.k i
    have fp:=fun i=>blk_frozen s0.k i
    have rq:=fun i=>blk_cell sF.k i
    have fz:=fun i=>blk_frozen sF.z i
    have rzz:=fun i=>blk_cell sF.z i
    obtain⟨k4,hP⟩:=sF.done;have rk:=fun i=>blk_cell k4 i
    rw [<- hN] at hP;have HP:=Nm.hide hP;clear s0 sF k4 hP;go_wp2_with fail
    first|refine bodyPost_ret (v:=.agg #[.int .i64 3,.string CB,.string ⟨#[]⟩,(.slice ua q.ss.length uc)]) ?_ rfl HP.out|done
    simp [results,Tryz.f22,go_sem,rk]
   |some c=>
    have hNN:R=⟨if c.lab.length=lab.length then 4 else 5,CB,c.nm,(q.ss.map (·.ty))⟩:=by(rw [HR.out,HT.out];rfl)
    have s6:=s0;obtain⟨d0,-⟩:=HM.out c rfl _ s6.be;have rp6:=fun i=>blk_cell s6.k i
    have fp6:=fun i=>blk_frozen s6.k i
    clear s0;have s0:=NdS.set2 (y:=.string c.nm) s6;obtain⟨-,ca,cc,d1⟩:=HM.out c rfl _ s0.be;clear HR HI HM s6;simp only [cutV];unfold ptr;generalize c.lab.length=CN at*
    by_cases hcn:CN=lab.length
    ·subst hcn;simp only [if_true] at hNN;have sF:=(NdS.set0 (y:=.int .i64 4) s0);have rp:=fun i=>blk_cell s0.k i
     have fp:=fun i=>blk_frozen s0.k i
     have rq:=fun i=>blk_cell sF.k i
     have fz:=fun i=>blk_frozen sF.z i
     have rzz:=fun i=>blk_cell sF.z i
     obtain⟨k4,hP⟩:=sF.done;have rk:=fun i=>blk_cell k4 i
     rw [<- hNN] at hP;have HP:=Nm.hide hP;clear s0 sF k4 hP;go_wp2_with fail
     first|refine bodyPost_ret (v:=.agg #[.int .i64 4,.string CB,.string (c.nm),(.slice ua q.ss.length uc)]) ?_ rfl HP.out|done
     simp [results,Tryz.f22,go_sem,rk]
    ·rw [if_neg hcn] at hNN;have i1:((CN:Int)==(lab.length:Int))=false:=by simpa using fun e=>hcn (by omega)
     have i2:¬(CN:Int)=(lab.length:Int):=fun e=>hcn (by omega)
     have sF:=(NdS.set0 (y:=.int .i64 5) s0);have rp:=fun i=>blk_cell s0.k i
     have fp:=fun i=>blk_frozen s0.k i
     have rq:=fun i=>blk_cell sF.k i
     have fz:=fun i=>blk_frozen sF.z i
     have rzz:=fun i=>blk_cell sF.z i
     obtain⟨k4,hP⟩:=sF.done;have rk:=fun i=>blk_cell k4 i
     rw [<- hNN] at hP;have HP:=Nm.hide hP;clear s0 sF k4 hP;go_wp2_with fail
     first|refine bodyPost_ret (v:=.agg #[.int .i64 5,.string CB,.string (c.nm),(.slice ua q.ss.length uc)]) ?_ rfl HP.out|done
     simp [results,Tryz.f22,go_sem,rk]
  ·have s4:=s3.below b4;have HI:=Nm.hide hin;have HT:=Nm.hide (HTN.out hin);have hx:=HX.out _ s4.be;clear s3 b4 hg rp fp c1 hin HK HTY HTN HX;go_wp2_with fail
   refine hx.mono ?_;rintro e w6 ⟨rfl,b6⟩;have s0:=s4.below b6;clear s4 b6 hx
   cases CT with
   |none=>
    simp only [cutV];have hNN:R=⟨if(cloT os lab).length=lab.length then 2 else 1,CB,⟨#[]⟩,[]⟩:=by rw [HR.out,kdT,cutN,HI.out,HT.out];rfl
    clear HR HI HM;generalize (cloT os lab).length=CL at*
    by_cases hcl:CL=lab.length
    ·subst hcl;simp only [if_true] at hNN;have sF:=(NdS.set0 (y:=.int .i64 2) s0);have rp:=fun i=>blk_cell s0.k i
     have fp:=fun i=>blk_frozen s0.k i
     have rq:=fun i=>blk_cell sF.k i
     have fz:=fun i=>blk_frozen sF.z i
     have rzz:=fun i=>blk_cell sF.z i
     obtain⟨k4,hP⟩:=sF.done;have rk:=fun i=>blk_cell k4 i
     rw [<- hNN] at hP;have HP:=Nm.hide hP;clear s0 sF k4 hP;go_wp2_with fail
     first|refine bodyPost_ret (v:=.agg #[.int .i64 2,.string CB,.string ⟨#[]⟩,(.slice none 0 0)]) ?_ rfl HP.out|done
     simp [results,Tryz.f22,go_sem,rk]
    ·rw [if_neg hcl] at hNN;have i1:((CL:Int)==(lab.length:Int))=false:=by simpa using fun e=>hcl (by omega)
     have i2:¬(CL:Int)=(lab.length:Int):=fun e=>hcl (by omega)
     have sF:=(NdS.set0 (y:=.int .i64 1) s0);have rp:=fun i=>blk_cell s0.k i
     have fp:=fun i=>blk_frozen s0.k i
     have rq:=fun i=>blk_cell sF.k i
     have fz:=fun i=>blk_frozen sF.z i
     have rzz:=fun i=>blk_cell sF.z i
     obtain⟨k4,hP⟩:=sF.done;have rk:=fun i=>blk_cell k4 i
     rw [<- hNN] at hP;have HP:=Nm.hide hP;clear s0 sF k4 hP;go_wp2_with fail
     first|refine bodyPost_ret (v:=.agg #[.int .i64 1,.string CB,.string ⟨#[]⟩,(.slice none 0 0)]) ?_ rfl HP.out|done
     simp [results,Tryz.f22,go_sem,rk]
   |some c=>
    have hNN:R=⟨if c.lab.length=lab.length then 4 else 5,CB,c.nm,[]⟩:=by(rw [HR.out,HT.out];rfl)
    have s6:=s0;obtain⟨d0,-⟩:=HM.out c rfl _ s6.be;have rp6:=fun i=>blk_cell s6.k i
    have fp6:=fun i=>blk_frozen s6.k i
    clear s0;have s0:=NdS.set2 (y:=.string c.nm) s6;obtain⟨-,ca,cc,d1⟩:=HM.out c rfl _ s0.be;clear HR HI HM s6;simp only [cutV];unfold ptr;generalize c.lab.length=CN at*
    by_cases hcn:CN=lab.length
    ·subst hcn;simp only [if_true] at hNN;have sF:=(NdS.set0 (y:=.int .i64 4) s0);have rp:=fun i=>blk_cell s0.k i
     have fp:=fun i=>blk_frozen s0.k i
     have rq:=fun i=>blk_cell sF.k i
     have fz:=fun i=>blk_frozen sF.z i
     have rzz:=fun i=>blk_cell sF.z i
     obtain⟨k4,hP⟩:=sF.done;have rk:=fun i=>blk_cell k4 i
     rw [<- hNN] at hP;have HP:=Nm.hide hP;clear s0 sF k4 hP;go_wp2_with fail
     first|refine bodyPost_ret (v:=.agg #[.int .i64 4,.string CB,.string (c.nm),(.slice none 0 0)]) ?_ rfl HP.out|done
     simp [results,Tryz.f22,go_sem,rk]
    ·rw [if_neg hcn] at hNN;have i1:((CN:Int)==(lab.length:Int))=false:=by simpa using fun e=>hcn (by omega)
     have i2:¬(CN:Int)=(lab.length:Int):=fun e=>hcn (by omega)
     have sF:=(NdS.set0 (y:=.int .i64 5) s0);have rp:=fun i=>blk_cell s0.k i
     have fp:=fun i=>blk_frozen s0.k i
     have rq:=fun i=>blk_cell sF.k i
     have fz:=fun i=>blk_frozen sF.z i
     have rzz:=fun i=>blk_cell sF.z i
     obtain⟨k4,hP⟩:=sF.done;have rk:=fun i=>blk_cell k4 i
     rw [<- hNN] at hP;have HP:=Nm.hide hP;clear s0 sF k4 hP;go_wp2_with fail
     first|refine bodyPost_ret (v:=.agg #[.int .i64 5,.string CB,.string (c.nm),(.slice none 0 0)]) ?_ rfl HP.out|done
     simp [results,Tryz.f22,go_sem,rk]
end Go.Proofs.YtahpiciofdfipaaGreat
