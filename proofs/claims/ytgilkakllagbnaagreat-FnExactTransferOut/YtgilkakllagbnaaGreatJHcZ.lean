import Derived.Test.YtgilkakllagbnaaGreatHcX
import Derived.Test.YtgilkakllagbnaaGreatHcY
import Derived.Test.YtgilkakllagbnaaGreatJCzS
import Derived.Test.YtgilkakllagbnaaGreatJHcB
import Derived.Test.YtgilkakllagbnaaGreatJHcS
import Derived.Test.YtgilkakllagbnaaGreatJTzM
namespace Go.Proofs.YtgilkakllagbnaaGreat
open Go.RowKit
set_option linter.unusedVariables false
def TsP(R:List Rr×Int)(w:World)(e:Ending)(w':World):Prop:=
 ∃ u,e=.returned (.tuple #[u,.int .i64 R.2])∧w'.ownsRow w.heap.size 56 5 u R.1.length (rvVs R.1)∧Below w.heap.size w w'
set_option maxRecDepth 100000 in
set_option maxHeartbeats 3200000 in
theorem specTransferOut_any(o:ByteArray)(v hv:Value)(ps:List Zp)(hs:List Hp)(qt s:Int)(w:World)(h:ZRow w v ps)(hh:HRow w hv hs)(hz1:zsum ps<=1048576)(hpl:ps.length<=1048576)(hF:FitZ ps)(ho:o.size<=1048576)(hfo:∀ p∈hs,p.1.old.da.size<=2000000):
 Calls Tryz.prog 6 #[.agg #[.string o,v],hv,.int .i64 qt,.int .i64 s] w (TsP (toR ps o (hs.map (·.1)) qt s) w):=by
 have hck0:=fun W (hW:Below w.heap.size w W)=>specCheckZone_any o _ ps W (h.below hW) hz1 hpl (fun p hp=>⟨(hF p hp).1,(hF p hp).2.2⟩) (by unfold maxLen;omega)
 have hhi0:=fun W (hW:Below w.heap.size w W) (hz:zOK ps o=true)=>l11History_any o _ _ ps hs W (h.below hW) (hh.below hW) hpl hF ho hz
 have hou0:=fun W (hW:Below w.heap.size w W) (hz:zOK ps o=true) l1 l2=>l11Out_any o _ _ ps hs qt s W (h.below hW) (hh.below hW) hz1 hpl hF ho hz l1 l2 hfo
 obtain⟨va,vc,rfl⟩:∃ va vc,v=.slice va ps.length vc:=by obtain⟨⟨_,a,c,e,_⟩,_⟩:=h;exact⟨a,c,e⟩
 obtain⟨ha,hc,rfl⟩:∃ a c,hv=.slice a hs.length c:=by obtain⟨⟨_,a,c,e,_⟩,_⟩:=hh;exact⟨a,c,e⟩
 obtain⟨R,HR⟩:∃ R,Hid (R=toR ps o (hs.map (·.1)) qt s):=⟨_,rfl⟩;rw [<- HR.out];have b0:=(Below.refl w.heap.size w).alloc (Nat.le_refl _) (.cells #[.string o,.slice va ps.length vc] 33);have k0:=blk_new w #[.string o,.slice va ps.length vc] 33;have hck:=hck0 _ b0;have r0:=fun i=>blk_cell k0 i
 clear h hh hpl hF ho hz1 hfo hck0
 cases hz:zOK ps o with
 |false=>
  have HN:Hid (R=([],32)):=by show _=_;rw [HR.out,toR,if_neg (by rw [hz];simp)]
  rw [hz,if_neg (by decide)] at hck;clear HR hhi0 hou0;go_enter Tryz.func6,Tryz.ntmps6;go_wp2_with fail
  go_at_call 19
  refine hck.mono ?_;rintro e w1 ⟨rfl,b1⟩;have bw1:=Nm.below_two b0 b1;clear r0;go_wp2;go_ret2;rw [HN.out]
  exact⟨.slice none 0 0,rfl,World.ownsRow_nil _ _ _ _,bw1⟩
 |true=>
  rw [hz,if_pos rfl] at hck;have hhi:=fun W hW=>hhi0 W hW hz
  have hin:=fun W=>l04In_any s 4294967295 W
  have HD:Hid (R=if(serIn s&&hisB (soaOf ps) (hs.map (·.1)))=true then if qt=252∨qt=251 then(outT (soaOf ps) (restR (zoneRecs ps)) (hs.map (·.1)) qt s,0) else([],6) else([],32)):=by show _=_;rw [HR.out,toR,hz,Bool.true_and]
  clear HR hhi0
  cases hhs:hisB (soaOf ps) (hs.map (·.1)) with
  |false=>
   have HN:Hid (R=([],32)):=by show _=_;rw [HD.out,if_neg (by rw [hhs];simp)]
   rw [hhs] at hhi;clear HD hhs hou0 hin;go_enter Tryz.func6,Tryz.ntmps6;go_wp2_with fail
   go_at_call 19
   refine hck.mono ?_;rintro e w1 ⟨rfl,b1⟩;have bw1:=Nm.below_two b0 b1;have k1:=blk_below k0 b1;have r1:=fun i=>blk_cell k1 i
   clear r0;go_wp2_with fail
   go_at_call 20
   refine(hhi _ bw1).mono ?_;rintro e w2 ⟨rfl,b2⟩;have bw2:=Nm.below_two bw1 b2;clear r1;go_wp2;go_ret2;rw [HN.out]
   exact⟨.slice none 0 0,rfl,World.ownsRow_nil _ _ _ _,bw2⟩
  |true=>
   rw [hhs] at hhi;obtain⟨hl40,hl500⟩:=his_len hhs;rw [List.length_map] at hl40;have hou:=fun W hW=>hou0 W hW hz hl40 hl500
   cases hsi:serIn s with
   |false=>
    have HN:Hid (R=([],32)):=by show _=_;rw [HD.out,if_neg (by rw [hsi];simp)]
    have hsi':(decide (0<=s)&&decide (s<=4294967295))=false:=hsi;rw [hsi'] at hin;clear HD hhs hou0 hou hsi hsi' hl500;go_enter Tryz.func6,Tryz.ntmps6;go_wp2_with fail
    go_at_call 19
    refine hck.mono ?_;rintro e w1 ⟨rfl,b1⟩;have bw1:=Nm.below_two b0 b1;have k1:=blk_below k0 b1;have r1:=fun i=>blk_cell k1 i
    clear r0;go_wp2_with fail
    go_at_call 20
    refine(hhi _ bw1).mono ?_;rintro e w2 ⟨rfl,b2⟩;have bw2:=Nm.below_two bw1 b2;clear r1;go_wp2_with fail
    go_at_call 21
    refine(hin _).mono ?_;rintro e w3 ⟨rfl,hw⟩;obtain rfl:=hw.symm;clear hw;go_wp2;go_ret2;rw [HN.out]
    exact⟨.slice none 0 0,rfl,World.ownsRow_nil _ _ _ _,bw2⟩
   |true=>
    have hsi':(decide (0<=s)&&decide (s<=4294967295))=true:=hsi;rw [hsi'] at hin;have HQ:Hid (R=if qt=252∨qt=251 then(outT (soaOf ps) (restR (zoneRecs ps)) (hs.map (·.1)) qt s,0) else([],6)):=by show _=_;rw [HD.out,if_pos (by rw [hsi,hhs];rfl)]
    generalize outT (soaOf ps) (restR (zoneRecs ps)) (hs.map (·.1)) qt s=OT at*;clear HD hhs hou0 hsi hsi' hl500;go_enter Tryz.func6,Tryz.ntmps6;go_wp2_with fail
    go_at_call 19
    refine hck.mono ?_;rintro e w1 ⟨rfl,b1⟩;have bw1:=Nm.below_two b0 b1;have k1:=blk_below k0 b1;have r1:=fun i=>blk_cell k1 i
    clear r0;go_wp2_with fail
    go_at_call 20
    refine(hhi _ bw1).mono ?_;rintro e w2 ⟨rfl,b2⟩;have bw2:=Nm.below_two bw1 b2;have k2:=blk_below k1 b2;clear r1 hhi;go_wp2_with fail
    go_at_call 21
    refine(hin _).mono ?_;rintro e w3 ⟨rfl,hw⟩;obtain rfl:=hw.symm;clear hw hin;have r2:=fun i=>blk_cell k2 i
    by_cases q1:qt=252
    ·have HN:Hid (R=(OT,0)):=by show _=_;rw [HQ.out,if_pos (.inl q1)]
     subst q1;clear HQ;go_wp2_with fail
     go_at_call 22
     refine(hou _ bw2).mono ?_;rintro e w4 ⟨u,rfl,o4,b4⟩;have bw4:=Nm.below_two bw2 b4;have o5:=own_base o4 bw2.size;obtain⟨xa,xc,rfl⟩:=own_sl o5;clear r2 o4 hou;go_wp2;go_ret2;rw [HN.out];exact⟨_,rfl,o5,bw4⟩
    ·have e1:(qt==252)=false:=by simpa using q1
     have e1n:(qt != 252)=true:=by simpa using q1
     by_cases q2:qt=251
     ·have HN:Hid (R=(OT,0)):=by show _=_;rw [HQ.out,if_pos (.inr q2)]
      subst q2;clear HQ q1 e1 e1n;go_wp2_with fail
      go_at_call 22
      refine(hou _ bw2).mono ?_;rintro e w4 ⟨u,rfl,o4,b4⟩;have bw4:=Nm.below_two bw2 b4;have o5:=own_base o4 bw2.size;obtain⟨xa,xc,rfl⟩:=own_sl o5;clear r2 o4 hou;go_wp2;go_ret2;rw [HN.out];exact⟨_,rfl,o5,bw4⟩
     ·have HN:Hid (R=([],6)):=by show _=_;rw [HQ.out,if_neg (by rintro(h|h)<;>contradiction)]
      have e2:(qt==251)=false:=by simpa using q2
      have e2n:(qt != 251)=true:=by simpa using q2
      clear HQ q1 q2 r2 hou;go_wp2;go_ret2;rw [HN.out];exact⟨.slice none 0 0,rfl,World.ownsRow_nil _ _ _ _,bw2⟩
theorem fitT_same{ps qs:List Zp}(e:qs.map (·.1)=ps.map (·.1))(h:FitZ ps):FitZ qs:=by
 intro q hq;have:q.1∈qs.map (·.1):=List.mem_map.2 ⟨q,hq,rfl⟩;rw [e] at this;obtain⟨p,hp1,hp2⟩:=List.mem_map.1 this;rw [<- hp2];exact h p hp1
theorem hp_mem{ps qs:List Hp}(e:qs.map (·.1)=ps.map (·.1)){P:Cg->Prop}(h:∀ p∈ps,P p.1):∀ q∈qs,P q.1:=by
 intro q hq;have:q.1∈qs.map (·.1):=List.mem_map.2 ⟨q,hq,rfl⟩;rw [e] at this;obtain⟨p,hp1,hp2⟩:=List.mem_map.1 this;rw [<- hp2];exact h p hp1
theorem hs_fits{hs:List Hp}(h:hsum hs<=1048576):∀ p∈hs,∀ r∈cgR p.1,r.own.size<=1048576∧r.da.size<=1048576:=by
 intro p hp r hr;have h1:=hsum_mem hs p hp;unfold hs1 at h1;rw [cgR,List.mem_append,List.mem_append,List.mem_append] at hr
 rcases hr with((hr|hr)|hr)|hr
 ·simp at hr;subst hr;exact⟨by omega,by omega⟩
 ·have:=rsum_mem p.1.del r hr;exact⟨by omega,by omega⟩
 ·simp at hr;subst hr;exact⟨by omega,by omega⟩
 ·have:=rsum_mem p.1.add r hr;exact⟨by omega,by omega⟩
theorem hs_lens{hs:List Hp}(h:hsum hs<=1048576):∀ p∈hs,p.1.del.length<=1048576∧p.1.add.length<=1048576:=by
 intro p hp;have h1:=hsum_mem hs p hp;unfold hs1 at h1;exact⟨by omega,by omega⟩
section
variable {o:ByteArray}{ps:List Zp}{hs:List Hp}{qt s:Int}
theorem to_same{qs:List Zp}{ts:List Hp}(e:qs.map (·.1)=ps.map (·.1))(e2:ts.map (·.1)=hs.map (·.1)):toR qs o (ts.map (·.1)) qt s=toR ps o (hs.map (·.1)) qt s:=by
 rw [e2];exact toR_same (zOK_same e o) (zoneRecs_same e)
theorem specTo_same(hz:zsum ps<=1048576)(hl:ps.length<=1048576)(hF:FitZ ps)(ho:o.size<=1048576)(hh:hsum hs<=1048576)
 (u t:Value) (qs:List Zp) (ts:List Hp) (W:World) (e1:qs.map (·.1)=ps.map (·.1)) (e2:ts.map (·.1)=hs.map (·.1)) (z1:ZRow W u qs) (z2:HRow W t ts):
 Calls Tryz.prog 6 #[.agg #[.string o,u],t,.int .i64 qt,.int .i64 s] W (ToP (toR ps o (hs.map (·.1)) qt s) W):=by
 have n1:qs.length=ps.length:=by have:=congrArg List.length e1;simpa using this
 rw [<- to_same e1 e2];exact specTransferOut_any o u t qs ts qt s W z1 z2 (by rw [zsum_same e1];exact hz) (by omega) (fitT_same e1 hF) ho (fun p hp=>by have:=hp_mem e2 (P:=fun c=>c.old.da.size<=1048576) (fun p hp=>(hs_fits hh p hp p.1.old (by simp [cgR])).2) p hp;omega)
theorem implTo_same(hz:zsum ps<=1048576)(hF:FitZ ps)(ho:o.size<=1048576)(hh:hsum hs<=1048576)
 (u t:Value) (qs:List Zp) (ts:List Hp) (W:World) (e1:qs.map (·.1)=ps.map (·.1)) (e2:ts.map (·.1)=hs.map (·.1)) (z1:ZRow W u qs) (z2:HRow W t ts):
 Calls Tryz.prog 9 #[.agg #[.string o,u],t,.int .i64 qt,.int .i64 s] W (ToP (toR ps o (hs.map (·.1)) qt s) W):=by
 rw [<- to_same e1 e2];exact implTransferOut_any o u t qs ts qt s W z1 z2 (by rw [zsum_same e1];exact hz) (fun p hp=>⟨(fitT_same e1 hF p hp).1,(fitT_same e1 hF p hp).2.2⟩) ho (hp_mem e2 (P:=fun c=>∀ r∈cgR c,r.own.size<=1048576∧r.da.size<=1048576) (hs_fits hh))
end
end Go.Proofs.YtgilkakllagbnaaGreat
