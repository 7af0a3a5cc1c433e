import Derived.Test.YtfmolgdfjklmpaaGreatJCnI
namespace Go.Proofs.YtfmolgdfjklmpaaGreat
open Go.RowKit
set_option linter.unusedVariables false
theorem under_split{a b:ByteArray}(h:isUnderS a b=true):(Nm.split a).isSome=true:=by
 rw [isUnderS] at h
 cases e:Nm.split a with
 |none=>rw [e] at h;cases h
 |some xs=>rfl
set_option maxRecDepth 100000 in
set_option maxHeartbeats 12800000 in
theorem fnConditions_any(a:Option Addr)(n cap:Nat)(w:World)(hn:n<=maxLen)(HD:n<=1048576->Calls Tryz.prog 4 #[.slice a n cap] w (DfP w)):
 Calls Tryz.prog 3 #[.slice a n cap] w fun e w'=>e=.returned (.bool true)∧Below w.heap.size w w':=by
 unfold maxLen at hn
 by_cases hl:1048576<n
 ·have hl':(1048576:Int)<(n:Int):=by omega
  clear HD;go_enter Tryz.func3,Tryz.ntmps3;go_wp2;go_ret;exact⟨rfl,Below.refl _ _⟩
 have hl':¬(1048576:Int)<(n:Int):=by omega
 have hd:=HD (by omega);clear HD hl;go_enter Tryz.func3,Tryz.ntmps3;go_wp2_with fail
 refine hd.mono ?_;rintro e w1 ⟨o,name,v,ps,rfl,ho,hnm,hzl,hz,b1⟩;obtain⟨va,vc,rfl⟩:∃ va vc,v=.slice va ps.length vc:=by obtain⟨⟨_,a,c,e,_⟩,_⟩:=hz;exact⟨a,c,e⟩
 have bA:=(Below.refl w1.heap.size w1).alloc (Nat.le_refl _) (.cells #[.string o,.slice va ps.length vc] 25);have kA:=blk_new w1 #[.string o,.slice va ps.length vc] 25;have bw1:=Nm.below_two b1 bA;obtain⟨WA,HWA⟩:∃ WA,Hid (WA=w1.alloc (.cells #[.string o,.slice va ps.length vc] 25)):=⟨_,rfl⟩
 have HUP:Hid (∀ W,Below (w1.heap.size+1) WA W->Below w.heap.size w W∧Blk W w1.heap.size #[.string o,.slice va ps.length vc] 25∧ZRow W (.slice va ps.length vc) ps∧w1.heap.size+1<=W.heap.size):=by
  intro W hW;have e:w1.heap.size+1=WA.heap.size:=by rw [HWA.out];simp
  rw [e] at hW;have hW2:=hW;rw [HWA.out] at hW;exact⟨Nm.below_two bw1 hW,blk_below kA hW,(hz.below bA).below hW,by rw [e];exact hW2.size⟩
 have bR:Below (w1.heap.size+1) WA (w1.alloc (.cells #[.string o,.slice va ps.length vc] 25)):=by rw [HWA.out];exact Below.refl _ _
 have HCK:=Nm.hide (fun W (hW:Below (w1.heap.size+1) WA W)=>specCheckZone_any o (.slice va ps.length vc) ps W (HUP.out W hW).2.2.1 hzl.1 hzl.2.1 (fun p hp=>⟨(hzl.2.2 p hp).1,(hzl.2.2 p hp).2.2⟩) (by unfold maxLen;omega));have HUN:=Nm.hide (fun W=>specIsUnder_any name o W (by unfold maxLen;omega) (by unfold maxLen;omega));have HZR:=Nm.hide (fun W (hW:Below (w1.heap.size+1) WA W)=>specZoneRecords_any o (.slice va ps.length vc) ps W (HUP.out W hW).2.2.1 hzl.1 hzl.2.1);have HFN:=Nm.hide (fun W (hW:Below (w1.heap.size+1) WA W)=>specFindNode_any o name (.slice va ps.length vc) ps W (HUP.out W hW).2.2.1 hzl.1 hzl.2.1 (fun p hp=>⟨(hzl.2.2 p hp).1,(hzl.2.2 p hp).2.2⟩) (by unfold maxLen;omega) (by unfold maxLen;omega));have HCO:=Nm.hide (fun(u:Value) (xs:List Rr) W (hW:Below (w1.heap.size+1) WA W) (hu:CRow W u xs.length 5 (rvVs xs)) (hx:∀ r∈xs,r.own.size<=1048576∧r.da.size<=1048576)=>implCheckConditions_any o (.slice va ps.length vc) u ps xs W (HUP.out W hW).2.2.1 hzl.1 (fun p hp=>⟨(hzl.2.2 p hp).1,(hzl.2.2 p hp).2.2⟩) (by omega) hu hx);have HRF:=Nm.hide (rec_fit hzl);have HSM:=Nm.hide (fun(h:zOK ps o=true)=>zOK_small h);have HCW:=Nm.hide (fun(h:zOK ps o=true)=>cn_wish h);have HC1:=Nm.hide (fun(h:zOK ps o=true)=>cn_one (name:=name) h)
 have HNR:Hid (zOK ps o=true->isUnderS name o=true->(Nm.split name).isSome=true->(ndR ps o name).1.ty=typZ (ps.map (·.1)) name):=by
  intro h1 h2 h3;rw [ndR,if_pos ⟨h1,h3⟩,ndZ,if_pos h2]
 clear hz hzl bA bw1 b1 hd;have kz0:=(HUP.out _ bR).2.1;have rz0:=fun i=>blk_cell kz0 i
 have hck:=HCK.out _ bR
 cases hzo:zOK ps o with
 |false=>
  rw [hzo] at hck;simp only [Bool.false_eq_true,if_false] at hck;clear HUN HZR HFN HCO HRF HSM HCW HC1 HNR HCK hzo;go_wp2_with fail
  refine hck.mono ?_;rintro e w2 ⟨rfl,b2⟩;have bw:=(HUP.out _ (bR.trans (b2.mono (by simp)))).1;go_wp2;go_ret
  exact⟨rfl,bw⟩
 |true=>
  rw [hzo] at hck;simp only [if_true] at hck;have HSM2:=Nm.hide (HSM.out hzo);have HCW2:=Nm.hide (HCW.out hzo);have HC2:=Nm.hide (HC1.out hzo);have HNR2:=Nm.hide (HNR.out hzo);clear HSM HCW HC1 HNR HCK hzo;go_wp2_with fail
  refine hck.mono ?_;rintro e w2 ⟨rfl,b2⟩;have bR2:=bR.trans (b2.mono (by simp));have hup2:=HUP.out _ bR2;have rz2:=fun i=>blk_cell hup2.2.1 i
  have hun:=HUN.out w2;clear hck b2 rz0 kz0 bR HUN
  cases hu:isUnderS name o with
  |false=>
   rw [hu] at hun;clear HSM2 HCW2 HC2 HNR2 hu HZR HFN HCO HRF;go_wp2_with fail
   refine hun.mono ?_;rintro e w3 ⟨rfl,b3⟩;have bw:=(HUP.out _ (bR2.trans (b3.mono hup2.2.2.2))).1;go_wp2;go_ret
   exact⟨rfl,bw⟩
  |true=>
   rw [hu] at hun;have hsp:(Nm.split name).isSome=true:=under_split hu;have HC3:=Nm.hide (HC2.out hu hsp);have HNR3:=Nm.hide (HNR2.out hu hsp);clear HC2 HNR2 hu hsp;go_wp2_with fail
   refine hun.mono ?_;rintro e w3 ⟨rfl,b3⟩;have bR3:=bR2.trans (b3.mono hup2.2.2.2);have hup3:=HUP.out _ bR3;have rz3:=fun i=>blk_cell hup3.2.1 i
   have hzr:=HZR.out _ bR3;rw [HSM2.out] at hzr;generalize hrs:recsAll ps=rs at*;clear hun b3 rz2 hup2 bR2 HZR HSM2 hrs;go_wp2_with fail
   refine hzr.mono ?_;rintro e w4 ⟨u,rfl,hou,b4⟩;obtain⟨ua,uc,rfl⟩:=own_sl hou;have bR4:=bR3.trans (b4.mono hup3.2.2.2);have hup4:=HUP.out _ bR4
   by_cases h150:150<rs.length
   ·have i1:(150:Int)<(rs.length:Int):=by omega
    have bw:=hup4.1;clear HCW2 HC3 HNR3 HFN HCO HRF hou;go_wp2;go_ret;exact⟨rfl,bw⟩
   ·have i1:¬(150:Int)<(rs.length:Int):=by omega
    have hL:rs.length<=150:=by omega
    have hw13:w1.heap.size+1<=w3.heap.size:=hup3.2.2.2;obtain⟨i0,hi,hz0,hz1,hz2⟩:=info_parts Tryz.infoRRc;have hbe:Below w3.heap.size w4 w4:=Below.refl _ _;have HB4:Hid (∀ W,Below w3.heap.size w4 W->Below (w1.heap.size+1) WA W):=fun W hW=>bR4.trans (hW.mono hw13)
    have hs34:w3.heap.size<=w4.heap.size:=b4.size;clear hzr b4 h150 rz3 hup3 bR3;go_wp2_with fail
    go_loopw [5,6] (fun ov iv wr=>∃ (j m:Nat) (l:List Rr),j<=rs.length∧iv=.int .i64 ((j:Int)-1)∧Hid (l=lstK rs j∧l.length=m)∧m<=300∧wr.ownsRow w3.heap.size 33 5 ov m (rvVs l)∧Below w3.heap.size w4 wr) (fun _ iv _=>(intOf iv+1).toNat)
    case atStart=>exact⟨rs.length,rs.length,rs,Nat.le_refl _,rfl,⟨(lst_end rs).symm,rfl⟩,by omega,hou,hbe⟩
    case round=>
     clear hou hbe;obtain⟨j,m,l,hj,rfl,HL,hm,hown,hb⟩:=hrel
     by_cases hj0:0<j
     ·obtain⟨i,rfl⟩:∃ i,j=i+1:=⟨j-1,by omega⟩;have e1:((i+1:Nat):Int)-1=(i:Int):=by omega
      rw [e1];obtain⟨x,hx⟩:∃ x,rs[i]? =some x:=⟨_,List.getElem?_eq_getElem (by omega)⟩;have hxl:l[i]? =some x:=by rw [HL.out.1];exact lst_at hx
      have him:i<m:=by have h1:=(List.getElem?_eq_some_iff.1 hxl).1;have:=HL.out.2;omega
      have HST:Hid (lstK rs i=l.set i (z0R x)++[anR x]):=by show _=_;rw [HL.out.1];exact lst_step hx
      obtain⟨oa,cp,rfl⟩:=own_sl hown
      obtain⟨g5,rfl⟩:∃ g5,oa=some ⟨g5,0,none⟩:=by
       rcases hown.2 with⟨_,h0⟩|⟨g1,c1,cur,e,_⟩
       ·omega
       ·simp only [Value.slice.injEq] at e;exact⟨g1,e.1⟩
      have hf:=fun q=>hown.frozenAt q
      have hc3:wr.cell? ⟨g5,i*5+3,none⟩=some (.int .i64 x.tt):=(hown.cellAt (i*5+3) (by omega)).trans ((rvVs_at l i 3 x hxl (by decide)).trans rfl);obtain⟨hst,hgs⟩:=hown.stored (i*5+3) (.int .i64 0);rw [rvs_set l i x hxl] at hst;have hxs:(l.set i (z0R x))[i]? =some (z0R x):=by rw [List.getElem?_set_self (List.getElem?_eq_some_iff.1 hxl).1]
      have hc0:(wr.setCell ⟨g5,i*5+3,none⟩ (.int .i64 0)).cell? ⟨g5,i*5,none⟩=some (.string x.own):=(hst.cellAt (i*5) (by omega)).trans ((rvVs_at _ i 0 _ hxs (by decide)).trans rfl);have hg5:w3.heap.size<=g5:=(hown.lt g5 rfl).1;have hb5:Below w3.heap.size w4 (wr.setCell ⟨g5,i*5+3,none⟩ (.int .i64 0)):=hb.setCell hg5 _;have j1:(0:Int)<=(i:Int):=by omega
      have j2:(i:Int)<(m:Int):=by omega
      have hsz:w3.heap.size<=(wr.setCell ⟨g5,i*5+3,none⟩ (.int .i64 0)).heap.size:=by have:=hb.size;simp;omega
      have hszr:w3.heap.size<=wr.heap.size:=by have:=hb.size;omega
      have HL2:Hid ((l.set i (z0R x)++[anR x]).length=m+1):=by show _=_;rw [List.length_append,List.length_set,HL.out.2];rfl
      have hm2:m+1<=300:=by
       have h1:=HL.out.2;rw [HL.out.1,lst_len (by omega)] at h1;omega
      obtain⟨W5,HW5⟩:∃ W5,Hid (W5=wr.setCell ⟨g5,i*5+3,none⟩ (.int .i64 0)):=⟨_,rfl⟩;clear hx hxl hxs HL e1 hj0;obtain⟨ow,ty,cl,tt,da⟩:=x;simp only at hc0 hc3
      go_wp2_with (at_builtin;refine wpList_append_own _ rfl (.tmp 49) (.tmp 56) 30 rfl w3.heap.size 33 i0 _ 5 56 Tryz.underlying30 hi hz0 hz1 hz2 rfl (by decide) _ _ _ rfl (hst.alloc _) ⟨wr.heap.size,0,none⟩ 1 1 [.string ow,.int .i64 255,.int .i64 255,.int .i64 0,.string ⟨#[]⟩] rfl rfl (by have h:=cell_newV (wr.setCell ⟨g5,i*5+3,none⟩ (.int .i64 0)) #[.string ow,.int .i64 255,.int .i64 255,.int .i64 0,.string ⟨#[]⟩] 33;simpa using h) (by intro u hu;simp at hu;rcases hu with rfl|rfl|rfl|rfl|rfl<;>rfl) (by unfold maxLen;omega) (by omega) (by simp;omega) ?_)
      intro v6 w6 hown6 hgrow6 _;have hb6:Below w3.heap.size w4 w6:=(hb5.alloc hsz _).grown hgrow6 (by simp;omega) (fun k hk=>(hst.lt k hk).1);clear hgrow6 hst hb5;go_wp2;go_roundw
      case rel=>exact⟨i,m+1,_,by omega,rfl,⟨HST.out.symm,HL2.out⟩,hm2,by rw [rvVs_app];exact hown6,hb6⟩
      case measure=>simp [intOf]
     ·obtain rfl:j=0:=by omega
      have e1:((0:Nat):Int)-1= -1:=rfl;rw [e1];obtain⟨oa,oc,rfl⟩:=own_sl hown;have hlw:l=wishL rs:=by rw [HL.out.1,lst_all]
      subst hlw;have bR5:=HB4.out _ hb;have hup5:=HUP.out _ bR5;have rz5:=fun i=>blk_cell hup5.2.1 i
      have hco:=HCO.out (.slice oa m oc) (wishL rs) wr bR5 (CRow.of_owns (by rw [HL.out.2];exact hown)) (by
       intro r hr;obtain⟨q,hq,rfl|rfl⟩:=wish_mem.1 hr
       ·exact HRF.out q hq
       ·exact⟨(HRF.out q hq).1,by show(#[]:Array UInt8).size<=_;decide⟩)
      rw [HCW2.out (by omega)] at hco;clear HL hown hb rz5 hj hj0 hm HB4 hup4 bR4 e1;have rz5:=fun i=>blk_cell hup5.2.1 i
      go_wp2_with fail
      refine hco.mono ?_;rintro e w5 ⟨rfl,b5⟩;have bR6:=bR5.trans (b5.mono hup5.2.2.2);have hup6:=HUP.out _ bR6;have rz6:=fun i=>blk_cell hup6.2.1 i
      have hfn:=HFN.out _ bR6;obtain⟨⟨⟨kd,clo,cut,T⟩,fc⟩,HR⟩:∃ R,Hid (R=ndR ps o name):=⟨_,rfl⟩;rw [<- HR.out] at hfn;have HTY:Hid (T=typZ (ps.map (·.1)) name):=by show _=_;rw [<- HNR3.out,<- HR.out]
      clear hco b5 rz5 hup5 bR5 HR;go_wp2_with fail
      refine hfn.mono ?_;rintro e w7 ⟨u7,rfl,hu7,b7⟩;obtain⟨na,nc,rfl⟩:=own_sl hu7;simp only
      have bR7:=bR6.trans (b7.mono hup6.2.2.2);have kN:=blk_new w7 #[.int .i64 kd,.string clo,.string cut,.slice na T.length nc] 38;have bR8a:=bR7.alloc (HUP.out _ bR7).2.2.2 (.cells #[.int .i64 kd,.string clo,.string cut,.slice na T.length nc] 38);have bR8:=bR8a.alloc (HUP.out _ bR8a).2.2.2 (.cells #[.string name,.int .i64 255,.int .i64 254,.int .i64 0,.string ⟨#[]⟩] 33);have hrow8:=one_row (w7.alloc (.cells #[.int .i64 kd,.string clo,.string cut,.slice na T.length nc] 38)) ⟨name,255,254,0,⟨#[]⟩⟩;rw [World.size_alloc] at hrow8;have hfit1:∀ r∈[(⟨name,255,254,0,⟨#[]⟩⟩:Rr)],r.own.size<=1048576∧r.da.size<=1048576:=by intro r hr;simp at hr;subst hr;exact⟨by show name.size<=_;omega,by show(#[]:Array UInt8).size<=_;decide⟩
      have hfit2:∀ r∈[(⟨name,255,255,0,⟨#[]⟩⟩:Rr)],r.own.size<=1048576∧r.da.size<=1048576:=by intro r hr;simp at hr;subst hr;exact⟨by show name.size<=_;omega,by show(#[]:Array UInt8).size<=_;decide⟩
      have rz8:=fun i=>blk_cell (HUP.out _ bR8a).2.1 i
      by_cases hT:0<T.length
      ·have HT2:(if 0<(typZ (ps.map (·.1)) name).length then(6:Int) else 0)=6:=by rw [<- HTY.out,if_pos hT]
       have HT3:(if 0<(typZ (ps.map (·.1)) name).length then(0:Int) else 3)=0:=by rw [<- HTY.out,if_pos hT]
       have hT2:(0:Int)<(T.length:Int):=by omega
       clear hfn hu7 b7 rz6 hup6 bR6 bR7 bR8a HTY hT;have ha:=HCO.out (.slice (some ⟨w7.heap.size+1,0,none⟩) 1 1) [⟨name,255,254,0,⟨#[]⟩⟩] _ bR8 hrow8 hfit1;rw [HC3.out 254 (.inl rfl),if_pos rfl,HT2] at ha;go_wp2_with fail
       refine ha.mono ?_;rintro e w8 ⟨rfl,b8⟩;have bR9:=bR8.trans (b8.mono (HUP.out _ bR8).2.2.2);have kN9:=blk_below (blk_alloc kN (.cells #[.string name,.int .i64 255,.int .i64 254,.int .i64 0,.string ⟨#[]⟩] 33)) b8;have rz9:=fun i=>blk_cell (HUP.out _ bR9).2.1 i
       clear ha rz8;have bR10:=bR9.alloc (HUP.out _ bR9).2.2.2 (.cells #[.string name,.int .i64 255,.int .i64 255,.int .i64 0,.string ⟨#[]⟩] 33);have hrow10:=one_row w8 ⟨name,255,255,0,⟨#[]⟩⟩;have hb:=HCO.out (.slice (some ⟨w8.heap.size,0,none⟩) 1 1) [⟨name,255,255,0,⟨#[]⟩⟩] _ bR10 hrow10 hfit2;rw [HC3.out 255 (.inr rfl),if_neg (by decide),HT3] at hb;go_wp2_with fail
       refine hb.mono ?_;rintro e w10 ⟨rfl,b10⟩;have kN11:=blk_below (blk_alloc kN9 (.cells #[.string name,.int .i64 255,.int .i64 255,.int .i64 0,.string ⟨#[]⟩] 33)) b10;have rN11:=fun i=>blk_cell kN11 i
       have bw:=(HUP.out _ (bR10.trans (b10.mono (HUP.out _ bR10).2.2.2))).1;clear hb rz9 HUP HCO HC3 HFN HRF HNR3 HCW2;go_wp2;go_ret;exact⟨rfl,bw⟩
      ·have HT2:(if 0<(typZ (ps.map (·.1)) name).length then(6:Int) else 0)=0:=by rw [<- HTY.out,if_neg hT]
       have HT3:(if 0<(typZ (ps.map (·.1)) name).length then(0:Int) else 3)=3:=by rw [<- HTY.out,if_neg hT]
       have hT2:¬(0:Int)<(T.length:Int):=by omega
       clear hfn hu7 b7 rz6 hup6 bR6 bR7 bR8a HTY hT;have ha:=HCO.out (.slice (some ⟨w7.heap.size+1,0,none⟩) 1 1) [⟨name,255,254,0,⟨#[]⟩⟩] _ bR8 hrow8 hfit1;rw [HC3.out 254 (.inl rfl),if_pos rfl,HT2] at ha;go_wp2_with fail
       refine ha.mono ?_;rintro e w8 ⟨rfl,b8⟩;have bR9:=bR8.trans (b8.mono (HUP.out _ bR8).2.2.2);have kN9:=blk_below (blk_alloc kN (.cells #[.string name,.int .i64 255,.int .i64 254,.int .i64 0,.string ⟨#[]⟩] 33)) b8;have rz9:=fun i=>blk_cell (HUP.out _ bR9).2.1 i
       clear ha rz8;have bR10:=bR9.alloc (HUP.out _ bR9).2.2.2 (.cells #[.string name,.int .i64 255,.int .i64 255,.int .i64 0,.string ⟨#[]⟩] 33);have hrow10:=one_row w8 ⟨name,255,255,0,⟨#[]⟩⟩;have hb:=HCO.out (.slice (some ⟨w8.heap.size,0,none⟩) 1 1) [⟨name,255,255,0,⟨#[]⟩⟩] _ bR10 hrow10 hfit2;rw [HC3.out 255 (.inr rfl),if_neg (by decide),HT3] at hb;go_wp2_with fail
       refine hb.mono ?_;rintro e w10 ⟨rfl,b10⟩;have kN11:=blk_below (blk_alloc kN9 (.cells #[.string name,.int .i64 255,.int .i64 255,.int .i64 0,.string ⟨#[]⟩] 33)) b10;have rN11:=fun i=>blk_cell kN11 i
       have bw:=(HUP.out _ (bR10.trans (b10.mono (HUP.out _ bR10).2.2.2))).1;clear hb rz9 HUP HCO HC3 HFN HRF HNR3 HCW2;go_wp2;go_ret;exact⟨rfl,bw⟩
end Go.Proofs.YtfmolgdfjklmpaaGreat
