import Derived.Test.YtgilkakllagbnaaGreatHcA
import Derived.Test.YtgilkakllagbnaaGreatJGoodM
import Derived.Test.YtgilkakllagbnaaGreatJZbLb
import Derived.Test.YtgilkakllagbnaaGreatJDzY
import Derived.Test.YtgilkakllagbnaaGreatJCzI
import Derived.Test.YtgilkakllagbnaaGreatJCgS
import Derived.Test.YtgilkakllagbnaaGreatJParts
import Derived.Test.YtgilkakllagbnaaGreatJClone
namespace Go.Proofs.YtgilkakllagbnaaGreat
open Go.RowKit
set_option linter.unusedVariables false
set_option maxRecDepth 100000 in
set_option maxHeartbeats 1600000 in
theorem chgRecords_any(a b:Rr)(d e:Value)(xs ys:List Rr)(w:World)(h1:CRow w d xs.length 5 (rvVs xs))(h2:CRow w e ys.length 5 (rvVs ys))(l1:xs.length<=500)(l2:ys.length<=500)(hs:∀ r∈cgR ⟨a,b,xs,ys⟩,r.own.size<=1048576∧r.da.size<=1048576):
 Calls Tryz.prog 35 #[cgV a b d e] w fun r w'=>∃ u,r=.returned u∧w'.ownsRow w.heap.size 56 5 u (cgR ⟨a,b,xs,ys⟩).length (rvVs (cgR ⟨a,b,xs,ys⟩))∧Below w.heap.size w w':=by
 obtain⟨da,dc,rfl⟩:∃ a c,d=.slice a xs.length c:=by obtain⟨_,a,c,e,_⟩:=h1;exact⟨a,c,e⟩
 obtain⟨ea,ec,rfl⟩:∃ a c,e=.slice a ys.length c:=by obtain⟨_,a,c,e,_⟩:=h2;exact⟨a,c,e⟩
 have hcg:cgR ⟨a,b,xs,ys⟩=[[a],xs,[b],ys].flatten:=by simp [cgR]
 have hcl:(cgR ⟨a,b,xs,ys⟩).length=xs.length+ys.length+2:=cgR_len _;rw [hcg] at hcl hs ⊢;obtain⟨W0,hW0⟩:∃ W,W=w.alloc (.cells (cgL a b (.slice da xs.length dc) (.slice ea ys.length ec)).toArray 58):=⟨_,rfl⟩;obtain⟨W1,hW1⟩:∃ W,W=W0.alloc (.cells #[.string a.own,.int .i64 a.ty,.int .i64 a.cl,.int .i64 a.tt,.string a.da] 56):=⟨_,rfl⟩;obtain⟨W2,hW2⟩:∃ W,W=W1.alloc (.cells #[.string b.own,.int .i64 b.ty,.int .i64 b.cl,.int .i64 b.tt,.string b.da] 56):=⟨_,rfl⟩;obtain⟨W3,hW3⟩:∃ W,W=W2.alloc (.cells #[.slice (some ⟨w.heap.size+1,0,none⟩) 1 1,.slice da xs.length dc,.slice (some ⟨w.heap.size+1+1,0,none⟩) 1 1,.slice ea ys.length ec] 28):=⟨_,rfl⟩;have z0:W0.heap.size=w.heap.size+1:=by rw [hW0];simp
 have z1:W1.heap.size=w.heap.size+1+1:=by rw [hW1,World.size_alloc,z0]
 have z2:W2.heap.size=w.heap.size+1+1+1:=by rw [hW2,World.size_alloc,z1]
 have b0:Below w.heap.size w W0:=by rw [hW0];exact(Below.refl _ _).alloc (Nat.le_refl _) _
 have b1:Below w.heap.size w W1:=by rw [hW1];exact b0.alloc b0.size _
 have b2:Below w.heap.size w W2:=by rw [hW2];exact b1.alloc b1.size _
 have b3:Below w.heap.size w W3:=by rw [hW3];exact b2.alloc b2.size _
 have k1:Blk W3 (w.heap.size+1) #[.string a.own,.int .i64 a.ty,.int .i64 a.cl,.int .i64 a.tt,.string a.da] 56:=by
  have:=blk_new W0 #[.string a.own,.int .i64 a.ty,.int .i64 a.cl,.int .i64 a.tt,.string a.da] 56;rw [<- hW1,z0] at this;rw [hW3,hW2];exact blk_alloc (blk_alloc this _) _
 have k2:Blk W3 (w.heap.size+1+1) #[.string b.own,.int .i64 b.ty,.int .i64 b.cl,.int .i64 b.tt,.string b.da] 56:=by
  have:=blk_new W1 #[.string b.own,.int .i64 b.ty,.int .i64 b.cl,.int .i64 b.tt,.string b.da] 56;rw [<- hW2,z1] at this;rw [hW3];exact blk_alloc this _
 have k3:Blk W3 (w.heap.size+1+1+1) #[.slice (some ⟨w.heap.size+1,0,none⟩) 1 1,.slice da xs.length dc,.slice (some ⟨w.heap.size+1+1,0,none⟩) 1 1,.slice ea ys.length ec] 28:=by
  have:=blk_new W2 #[.slice (some ⟨w.heap.size+1,0,none⟩) 1 1,.slice da xs.length dc,.slice (some ⟨w.heap.size+1+1,0,none⟩) 1 1,.slice ea ys.length ec] 28;rw [<- hW3,z2] at this;exact this
 have hcc:Calls Tryz.prog 36 #[.slice (some ⟨w.heap.size+1+1+1,0,none⟩) 4 4] W3 fun e w'=>∃ v,e=.returned v∧w'.ownsRow W3.heap.size 56 5 v [[a],xs,[b],ys].flatten.length (rvVs [[a],xs,[b],ys].flatten)∧Below W3.heap.size W3 w':=
  concatRN_own [.slice (some ⟨w.heap.size+1,0,none⟩) 1 1,.slice da xs.length dc,.slice (some ⟨w.heap.size+1+1,0,none⟩) 1 1,.slice ea ys.length ec] [[a],xs,[b],ys] (w.heap.size+1+1+1) W3 rfl
   (fun i v hv=>(blk_cell k3 i).trans (by simpa using hv))
   (fun i v l hv hl=>by
    match i,hv,hl with
    |0,hv,hl=>simp at hv hl;subst hv hl;exact row1 k1
    |1,hv,hl=>simp at hv hl;subst hv hl;exact h1.below b3
    |2,hv,hl=>simp at hv hl;subst hv hl;exact row1 k2
    |3,hv,hl=>simp at hv hl;subst hv hl;exact h2.below b3
    |n+4,hv,hl=>simp at hv)
   (by omega) (by omega) (by simp)
 have hcr:=fun(v:Value) W (hv:CRow W v [[a],xs,[b],ys].flatten.length 5 (rvVs [[a],xs,[b],ys].flatten))=>cloneRecords_any v _ W hv (by omega) hs
 generalize [[a],xs,[b],ys].flatten=FL at*;clear hcg hcl hs k1 k2 k3 h1 h2 b0 b1 b2;rw [hW3,hW2,hW1,hW0] at hcc;go_enter Tryz.func35,Tryz.ntmps35;go_wp2_with fail
 rw [<- hW0,<- hW1,<- hW2,<- hW3] at hcc ⊢;clear hW0 hW1 hW2 hW3 z0 z1 z2;go_at_call 36
 refine hcc.mono ?_;rintro e w4 ⟨u,rfl,o4,b4⟩;have bw4:=Nm.below_two b3 b4;have hcr4:=hcr u w4 (CRow.of_owns o4);obtain⟨ua,uc,rfl⟩:=own_sl o4;clear hcr hcc;go_wp2_with fail
 go_at_call 65
 refine hcr4.mono ?_;rintro e w5 ⟨t,rfl,o5,b5⟩;obtain⟨ta,tc,rfl⟩:=own_sl o5;have bw5:=Nm.below_two bw4 b5;have o6:=own_base o5 bw4.size;clear o5;go_wp2;go_ret;exact⟨_,rfl,o6,bw5⟩
theorem own_appN{w:World}{B n:Nat}{v u:Value}{l r:List Rr}(hown:w.ownsRow B 56 5 v n (rvVs l))(hs:CRow w u r.length 5 (rvVs r))(hp:0<r.length)(hn:n<=1000000)(hr:r.length<=1000000)(hB:B<=w.heap.size):
 ∃ v' w',(Builtin.append_ #[28,28] 28 #[v,u]).run Tryz.prog w=.ok v' w'∧w'.ownsRow B 56 5 v' (n+r.length) (rvVs (l++r))∧w.grownBy w' v.ownBlock:=by
 obtain⟨j0,hj,k0,k1,k2⟩:=info_parts Tryz.infoRw;obtain⟨hlen,a,cap,rfl,hcap,hmx,hc⟩:=hs;obtain⟨b,off,rfl,hcell⟩:=hc hp
 obtain⟨v',w',h1,h2,h3,h4⟩:=run_append_own (P:=Tryz.prog) w B 28 28 56 j0 _ 5 56 Tryz.underlying28 hj k0 k1 k2 rfl (by decide) v n (rvVs l) hown ⟨b,off,none⟩ r.length cap (rvVs r) hlen (by
  intro j u hu;rw [Nm.addr_add]
  exact hcell j u hu) (rv_ones r) (by unfold maxLen;omega) (by omega) hB
 exact⟨v',w',h1,by rw [show rvVs (l++r)=rvVs l++rvVs r from by simp [rvVs]];exact h2,h3⟩
theorem isTransfer_any(q:Int)(w:World):Calls Tryz.prog 31 #[.int .i64 q] w fun e w'=>e=.returned (.bool (decide (q=252∨q=251)))∧w'=w:=by
 by_cases h1:q=252
 ·subst h1;go_enter Tryz.func31,Tryz.ntmps31;go_wp2;go_ret;exact⟨rfl,rfl⟩
 ·have e1:(q==252)=false:=by simpa using h1
  by_cases h2:q=251
  ·subst h2;go_enter Tryz.func31,Tryz.ntmps31;go_wp2;go_ret;exact⟨rfl,rfl⟩
  ·have e2:(q==251)=false:=by simpa using h2
   have e3:decide (q=252∨q=251)=false:=by simp [h1,h2]
   rw [e3];clear h1 h2 e3;go_enter Tryz.func31,Tryz.ntmps31;go_wp2;go_ret;exact⟨rfl,rfl⟩
def ToP(R:List Rr×Int)(w:World)(e:Ending)(w':World):Prop:=
 ∃ u,e=.returned (.tuple #[u,.int .i64 R.2])∧w'.ownsRow w.heap.size 56 5 u R.1.length (rvVs R.1)∧Below w.heap.size w w'
theorem one_cc{W:World}{g1 g2 g3:Nat}{r:Rr}{v:Value}{L:List Rr}(k1:Blk W g1 #[.string r.own,.int .i64 r.ty,.int .i64 r.cl,.int .i64 r.tt,.string r.da] 56)(k2:Blk W g2 #[.string r.own,.int .i64 r.ty,.int .i64 r.cl,.int .i64 r.tt,.string r.da] 56)(k3:Blk W g3 #[.slice (some ⟨g1,0,none⟩) 1 1,v,.slice (some ⟨g2,0,none⟩) 1 1] 28)(hv:CRow W v L.length 5 (rvVs L))(hl:L.length<=90000):
 Calls Tryz.prog 36 #[.slice (some ⟨g3,0,none⟩) 3 3] W fun e w'=>∃ v,e=.returned v∧w'.ownsRow W.heap.size 56 5 v ([r]++L++[r]).length (rvVs ([r]++L++[r]))∧Below W.heap.size W w':=by
 have e:[r]++L++[r]=[[r],L,[r]].flatten:=by simp
 rw [e]
 exact concatRN_own [.slice (some ⟨g1,0,none⟩) 1 1,v,.slice (some ⟨g2,0,none⟩) 1 1] [[r],L,[r]] g3 W rfl
  (fun i v hv=>(blk_cell k3 i).trans (by simpa using hv))
  (fun i v l hv' hl=>by
   match i,hv',hl with
   |0,hv',hl=>simp at hv' hl;subst hv' hl;exact row1 k1
   |1,hv',hl=>simp at hv' hl;subst hv' hl;exact hv
   |2,hv',hl=>simp at hv' hl;subst hv' hl;exact row1 k2
   |n+3,hv',hl=>simp at hv')
  (by simp) (by simp;omega) (by simp)
set_option maxRecDepth 100000 in
set_option maxHeartbeats 6400000 in
theorem implTransferOut_any(o:ByteArray)(v hv:Value)(ps:List Zp)(hs:List Hp)(qt s:Int)(w:World)(h:ZRow w v ps)(hh:HRow w hv hs)(hz1:zsum ps<=1048576)(hf:∀ p∈ps,p.1.own.size<=1048576∧∀ x∈p.1.da,x.size<=1048576)(ho:o.size<=1048576)(hfh:∀ p∈hs,∀ r∈cgR p.1,r.own.size<=1048576∧r.da.size<=1048576):
 Calls Tryz.prog 9 #[.agg #[.string o,v],hv,.int .i64 qt,.int .i64 s] w (ToP (toR ps o (hs.map (·.1)) qt s) w):=by
 obtain⟨va,vc,rfl⟩:∃ va vc,v=.slice va ps.length vc:=by obtain⟨⟨_,a,c,e,_⟩,_⟩:=h;exact⟨a,c,e⟩
 obtain⟨ha,hc,rfl⟩:∃ a c,hv=.slice a hs.length c:=by obtain⟨⟨_,a,c,e,_⟩,_⟩:=hh;exact⟨a,c,e⟩
 obtain⟨R,HR⟩:∃ R,Hid (R=toR ps o (hs.map (·.1)) qt s):=⟨_,rfl⟩;rw [<- HR.out];have b0:=(Below.refl w.heap.size w).alloc (Nat.le_refl _) (.cells #[.string o,.slice va ps.length vc] 33);have k0:=blk_new w #[.string o,.slice va ps.length vc] 33;have hck:=implCheckZone_any o _ ps _ (h.below b0) hz1 hf (by omega);have r0:=fun i=>blk_cell k0 i
 cases hz:zOK ps o with
 |false=>
  have HN:Hid (R=([],32)):=by show _=_;rw [HR.out,toR,if_neg (by rw [hz];simp)]
  rw [hz,if_neg (by decide)] at hck;clear HR hh hfh;go_enter Tryz.func9,Tryz.ntmps9;go_wp2_with fail
  go_at_call 25
  refine hck.mono ?_;rintro e w1 ⟨rfl,b1⟩;have bw1:=Nm.below_two b0 b1;clear r0;go_wp2;go_ret2;rw [HN.out]
  exact⟨.slice none 0 0,rfl,World.ownsRow_nil _ _ _ _,bw1⟩
 |true=>
  rw [hz,if_pos rfl] at hck;have hwi:=fun W=>within_any s 4294967295 W
  cases hsi:serIn s with
  |false=>
   have HN:Hid (R=([],32)):=by show _=_;rw [HR.out,toR,if_neg (by rw [hsi];simp)]
   have hsi':(decide (0<=s)&&decide (s<=4294967295))=false:=hsi;rw [hsi'] at hwi;clear HR hh hfh hsi hsi';go_enter Tryz.func9,Tryz.ntmps9;go_wp2_with fail
   go_at_call 25
   refine hck.mono ?_;rintro e w1 ⟨rfl,b1⟩;have bw1:=Nm.below_two b0 b1;clear r0;go_wp2_with fail
   go_at_call 26
   refine(hwi _).mono ?_;rintro e w2 ⟨rfl,hw⟩;obtain rfl:=hw.symm;clear hw;go_wp2;go_ret2;rw [HN.out]
   exact⟨.slice none 0 0,rfl,World.ownsRow_nil _ _ _ _,bw1⟩
  |true=>
   have hsi':(decide (0<=s)&&decide (s<=4294967295))=true:=hsi;rw [hsi'] at hwi;have hs0:0<=s:=by simp at hsi';omega
   clear hsi';obtain⟨al,hal⟩:=name_ofZ hz;obtain⟨r,k,zs,ds,f1,g1,i1,c1,-,-,-,u1,-⟩:=zOK_soaR hz hal;have e1:soaOf ps=r:=by rw [soaOf,f1];rfl
   have m1:=(recs_fit hf r (List.mem_of_getElem? g1)).2;have n1:=zOK_len hz;have hRl:(restR (zoneRecs ps)).length<=500:=by have:=List.length_filter_le (fun x=> !is6 x) (zoneRecs ps);unfold restR;omega
   have t1:soB r=true:=by simp [soB,List.find?_some f1,u1]
   have hps:=fun W (hW:Below w.heap.size w W)=>partSOA_rest o _ ps r k _ W (h.below hW) hz1 (fun p hp x hx=>(hf p hp).2 x hx) g1 i1 n1 c1
   have hih:=fun W (hW:Below w.heap.size w W)=>isHistory_any _ hs r W (hh.below hW)
   have hcl:=fun W (hW:Below w.heap.size w W)=>containsLong_any _ hs W (hh.below hW)
   have hit:=fun W=>isTransfer_any qt W
   have HD:Hid (R=if hisB r (hs.map (·.1))=true then if qt=252∨qt=251 then(outT r (restR (zoneRecs ps)) (hs.map (·.1)) qt s,0) else([],6) else([],32)):=by
    show _=_
    rw [HR.out,toR,hz,hsi,e1,Bool.and_self,Bool.true_and]
   clear HR f1 g1 i1 c1 u1 e1 n1 hz hz1 hf h hsi;generalize restR (zoneRecs ps)=RS at*;go_enter Tryz.func9,Tryz.ntmps9;go_wp2_with fail
   go_at_call 25
   refine hck.mono ?_;rintro e w1 ⟨rfl,b1⟩;have bw1:=Nm.below_two b0 b1;have k1:=blk_below k0 b1;have r1:=fun i=>blk_cell k1 i
   clear r0 k0 b0 b1 hck;go_wp2_with fail
   go_at_call 26
   refine(hwi _).mono ?_;rintro e w2 ⟨rfl,hw⟩;obtain rfl:=hw.symm;clear hw hwi;go_wp2_with fail
   go_at_call 27
   refine(hps _ bw1).mono ?_;rintro e w2 ⟨ua,uc,rfl,oR,b2⟩;have cA:=(Below.refl w2.heap.size w2).alloc (Nat.le_refl _) (.cells #[.string r.own,.int .i64 r.ty,.int .i64 r.cl,.int .i64 r.tt,.string r.da] 56);have kr:=blk_new w2 #[.string r.own,.int .i64 r.ty,.int .i64 r.cl,.int .i64 r.tt,.string r.da] 56;have oA:=own_base (own_below oR cA) bw1.size;have bwA:=Nm.below_two (Nm.below_two bw1 b2) cA;have rr:=fun i=>blk_cell kr i
   clear hps b2 r1 k1 oR cA;generalize hWA:w2.alloc (.cells #[.string r.own,.int .i64 r.ty,.int .i64 r.cl,.int .i64 r.tt,.string r.da] 56)=WA at*;have hihA:=hih WA bwA
   cases hg:hgB r (hs.map (·.1)) with
   |false=>
    have HN:Hid (R=([],32)):=by show _=_;rw [HD.out,if_neg (by rw [hisB,hg];simp)]
    rw [hg] at hihA;clear HD hg hh hfh hih hcl;go_wp2_with fail
    go_at_call 28
    refine hihA.mono ?_;rintro e w3 ⟨rfl,b3⟩;have bw3:=Nm.below_two bwA b3;clear rr;go_wp2;go_ret2;rw [HN.out]
    exact⟨.slice none 0 0,rfl,World.ownsRow_nil _ _ _ _,bw3⟩
   |true=>
    rw [hg] at hihA
    cases hlg:(hs.map (·.1)).any lgB with
    |true=>
     have HN:Hid (R=([],32)):=by show _=_;rw [HD.out,if_neg (by rw [hisB,hlg];simp)]
     rw [hlg] at hcl;clear HD hg hlg hh hfh hih;go_wp2_with fail
     go_at_call 28
     refine hihA.mono ?_;rintro e w3 ⟨rfl,b3⟩;have bw3:=Nm.below_two bwA b3;clear rr;go_wp2_with fail
     go_at_call 29
     refine(hcl _ bw3).mono ?_;rintro e w4 ⟨rfl,b4⟩;have bw4:=Nm.below_two bw3 b4;go_wp2;go_ret2;rw [HN.out]
     exact⟨.slice none 0 0,rfl,World.ownsRow_nil _ _ _ _,bw4⟩
    |false=>
     have hHs:hisB r (hs.map (·.1))=true:=by rw [hisB,hg,hlg];rfl
     obtain⟨hl40,hl500⟩:=his_len hHs;rw [List.length_map] at hl40;have HQ:Hid (R=if qt=252∨qt=251 then(outT r RS (hs.map (·.1)) qt s,0) else([],6)):=by show _=_;rw [HD.out,if_pos hHs]
     rw [hlg] at hcl;clear HD hg hlg hih hHs;go_wp2_with fail
     go_at_call 28
     refine hihA.mono ?_;rintro e w3 ⟨rfl,b3⟩;have bw3:=Nm.below_two bwA b3;have kr3:=blk_below kr b3;have o3:=own_below oA b3;clear rr hihA;go_wp2_with fail
     go_at_call 29
     refine(hcl _ bw3).mono ?_;rintro e w4 ⟨rfl,b4⟩;have bw4:=Nm.below_two bw3 b4;have kr4:=blk_below kr3 b4;have o4:=own_below o3 b4;have rr4:=fun i=>blk_cell kr4 i
     clear hcl b3 b4 kr3 o3 kr oA bw3 bwA
     by_cases q1:qt=252
     ·have HN:Hid (R=([r]++RS++[r],0)):=by show _=_;rw [HQ.out,if_pos (.inl q1),outT,if_pos q1]
      subst q1;clear HQ hh hfh hl40 hl500;go_wp2_with fail
      go_at_call 31
      refine(hit _).mono ?_;rintro e w5 ⟨rfl,hw⟩;obtain rfl:=hw.symm;clear hw hit rr4;obtain⟨X1,hX1⟩:∃ X,X=World.alloc w4 (.cells #[.string r.own,.int .i64 r.ty,.int .i64 r.cl,.int .i64 r.tt,.string r.da] 56):=⟨_,rfl⟩;obtain⟨X2,hX2⟩:∃ X,X=X1.alloc (.cells #[.string r.own,.int .i64 r.ty,.int .i64 r.cl,.int .i64 r.tt,.string r.da] 56):=⟨_,rfl⟩;obtain⟨X3,hX3⟩:∃ X,X=X2.alloc (.cells #[.slice (some ⟨(w4).heap.size,0,none⟩) 1 1,(.slice ua RS.length uc),.slice (some ⟨(w4).heap.size+1,0,none⟩) 1 1] 28):=⟨_,rfl⟩;have y1:X1.heap.size=(w4).heap.size+1:=by rw [hX1];simp
      have y2:X2.heap.size=(w4).heap.size+1+1:=by rw [hX2,World.size_alloc,y1]
      have t1:Below ((w4).heap.size) w4 X1:=by rw [hX1];exact(Below.refl _ _).alloc (Nat.le_refl _) _
      have t2:Below ((w4).heap.size) w4 X2:=by rw [hX2];exact t1.alloc t1.size _
      have t3:Below ((w4).heap.size) w4 X3:=by rw [hX3];exact t2.alloc t2.size _
      have q1:Blk X3 ((w4).heap.size) #[.string r.own,.int .i64 r.ty,.int .i64 r.cl,.int .i64 r.tt,.string r.da] 56:=by
       have:=blk_new w4 #[.string r.own,.int .i64 r.ty,.int .i64 r.cl,.int .i64 r.tt,.string r.da] 56;rw [<- hX1] at this;rw [hX3,hX2];exact blk_alloc (blk_alloc this _) _
      have q2:Blk X3 ((w4).heap.size+1) #[.string r.own,.int .i64 r.ty,.int .i64 r.cl,.int .i64 r.tt,.string r.da] 56:=by
       have:=blk_new X1 #[.string r.own,.int .i64 r.ty,.int .i64 r.cl,.int .i64 r.tt,.string r.da] 56;rw [<- hX2,y1] at this;rw [hX3];exact blk_alloc this _
      have q3:Blk X3 ((w4).heap.size+1+1) #[.slice (some ⟨(w4).heap.size,0,none⟩) 1 1,(.slice ua RS.length uc),.slice (some ⟨(w4).heap.size+1,0,none⟩) 1 1] 28:=by
       have:=blk_new X2 #[.slice (some ⟨(w4).heap.size,0,none⟩) 1 1,(.slice ua RS.length uc),.slice (some ⟨(w4).heap.size+1,0,none⟩) 1 1] 28;rw [<- hX3,y2] at this;exact this
      have hcat:=one_cc q1 q2 q3 (CRow.of_owns (own_below o4 t3)) (by omega);have bt:=Nm.below_two bw4 t3;have rr:=fun i=>blk_cell kr4 i
      have rr2:=fun i=>blk_cell (blk_alloc kr4 (.cells #[.string r.own,.int .i64 r.ty,.int .i64 r.cl,.int .i64 r.tt,.string r.da] 56)) i
      clear q1 q2 q3 t1 t2 t3;rw [hX3,hX2,hX1] at hcat;go_wp2_with fail
      rw [<- hX1,<- hX2,<- hX3] at hcat ⊢;clear hX1 hX2 hX3 y1 y2 rr rr2;refine hcat.mono ?_;rintro e wz ⟨uz,rfl,oz,bz⟩;have bwz:=Nm.below_two bt bz;have oz:=own_base oz bt.size;obtain⟨ZZ,hZZ⟩:∃ Z,Z=[r]++RS++[r]:=⟨_,rfl⟩;rw [<- hZZ] at oz HN;clear hZZ;obtain⟨za,zc,rfl⟩:=own_sl oz;clear hcat;go_wp2;go_ret2;rw [HN.out];exact⟨_,rfl,oz,bwz⟩
     ·by_cases q2:qt=251
      ·subst q2;have hse:=soaSerial_any r w4 (by omega);have hsl:=fun W=>implSerialLess_any s (sdS r) W
       rw [t1] at hse
       have HS:Hid (R=(if serL s (sdS r)=false then [r] else match lastF (atH (hs.map (·.1)) s) (hs.map (·.1)).length with|some i=>[r]++((hs.map (·.1)).drop i).flatMap cgR++[r]|none=>[r]++RS++[r],0)):=by
        show _=_
        rw [HQ.out,if_pos (.inr rfl),outT,if_neg (by decide)]<;>rfl
       generalize sdS r=SD at*;clear HQ q1 t1 m1
       cases hsl0:serL s SD with
       |false=>
        have HN:Hid (R=([r],0)):=by show _=_;rw [HS.out,hsl0];rfl
        rw [hsl0] at hsl;clear HS hsl0 hh hfh hl40 hl500;go_wp2_with fail
        go_at_call 31
        refine(hit _).mono ?_;rintro e w5 ⟨rfl,hw⟩;obtain rfl:=hw.symm;clear hw hit;go_wp2_with fail
        go_at_call 32
        refine hse.mono ?_;rintro e w5 ⟨rfl,b5⟩;have bw5:=Nm.below_two bw4 b5;have kr5:=blk_below kr4 b5;have rr5:=fun i=>blk_cell kr5 i
        clear rr4 hse;go_wp2_with fail
        go_at_call 33
        refine(hsl _).mono ?_;rintro e w6 ⟨rfl,hw⟩;obtain rfl:=hw.symm;clear hw hsl;have cB:=(Below.refl w5.heap.size w5).alloc (Nat.le_refl _) (.cells #[.string r.own,.int .i64 r.ty,.int .i64 r.cl,.int .i64 r.tt,.string r.da] 56);have HO:Hid ((w5.alloc (.cells #[.string r.own,.int .i64 r.ty,.int .i64 r.cl,.int .i64 r.tt,.string r.da] 56)).ownsRow w.heap.size 56 5 (.slice (some ⟨w5.heap.size,0,none⟩) 1 1) 1 (rvVs [r])):=World.ownsRow_lit (base:=w.heap.size) (e:=56) (size:=5) w5 #[.string r.own,.int .i64 r.ty,.int .i64 r.cl,.int .i64 r.tt,.string r.da] 1 bw5.size (by decide) rfl;have bwB:=Nm.below_two bw5 cB;go_wp2;go_ret2;rw [HN.out]
        exact⟨_,rfl,HO.out,bwB⟩
       |true=>
        rw [hsl0] at hsl;have HT:Hid (R=(match lastF (atH (hs.map (·.1)) s) (hs.map (·.1)).length with|some i=>[r]++((hs.map (·.1)).drop i).flatMap cgR++[r]|none=>[r]++RS++[r],0)):=by show _=_;rw [HS.out,hsl0];rfl
        have hcf:=fun W (hW:Below w.heap.size w W)=>changesFrom_any _ hs s W (hh.below hW) hs0 (fun p hp=>by have:=(hfh p hp p.1.old (by simp [cgR])).2;omega) (by omega)
        clear HS hsl0;go_wp2_with fail
        go_at_call 31
        refine(hit _).mono ?_;rintro e w5 ⟨rfl,hw⟩;obtain rfl:=hw.symm;clear hw hit;go_wp2_with fail
        go_at_call 32
        refine hse.mono ?_;rintro e w5 ⟨rfl,b5⟩;have bw5:=Nm.below_two bw4 b5;have kr5:=blk_below kr4 b5;have o5:=own_below o4 b5;clear rr4 hse bw4 kr4 o4 b5;go_wp2_with fail
        go_at_call 33
        refine(hsl _).mono ?_;rintro e w6 ⟨rfl,hw⟩;obtain rfl:=hw.symm;clear hw hsl;go_wp2_with fail
        go_at_call 34
        refine(hcf _ bw5).mono ?_;rintro e w6 ⟨u,rfl,hcp,b6⟩;have bw6:=Nm.below_two bw5 b6;have kr6:=blk_below kr5 b6;have o6:=own_below o5 b6;clear hcf bw5 kr5 o5 b6;rw [cfP] at hcp;rw [List.length_map] at HT
        cases hla:lastF (atH (hs.map (·.1)) s) hs.length with
        |none=>
         rw [hla] at hcp HT;subst hcp;have HN:Hid (R=([r]++RS++[r],0)):=HT;clear HT hla hh hfh hl40 hl500;obtain⟨X1,hX1⟩:∃ X,X=World.alloc w6 (.cells #[.string r.own,.int .i64 r.ty,.int .i64 r.cl,.int .i64 r.tt,.string r.da] 56):=⟨_,rfl⟩;obtain⟨X2,hX2⟩:∃ X,X=X1.alloc (.cells #[.string r.own,.int .i64 r.ty,.int .i64 r.cl,.int .i64 r.tt,.string r.da] 56):=⟨_,rfl⟩;obtain⟨X3,hX3⟩:∃ X,X=X2.alloc (.cells #[.slice (some ⟨(w6).heap.size,0,none⟩) 1 1,(.slice ua RS.length uc),.slice (some ⟨(w6).heap.size+1,0,none⟩) 1 1] 28):=⟨_,rfl⟩;have y1:X1.heap.size=(w6).heap.size+1:=by rw [hX1];simp
         have y2:X2.heap.size=(w6).heap.size+1+1:=by rw [hX2,World.size_alloc,y1]
         have t1:Below ((w6).heap.size) w6 X1:=by rw [hX1];exact(Below.refl _ _).alloc (Nat.le_refl _) _
         have t2:Below ((w6).heap.size) w6 X2:=by rw [hX2];exact t1.alloc t1.size _
         have t3:Below ((w6).heap.size) w6 X3:=by rw [hX3];exact t2.alloc t2.size _
         have q1:Blk X3 ((w6).heap.size) #[.string r.own,.int .i64 r.ty,.int .i64 r.cl,.int .i64 r.tt,.string r.da] 56:=by
          have:=blk_new w6 #[.string r.own,.int .i64 r.ty,.int .i64 r.cl,.int .i64 r.tt,.string r.da] 56;rw [<- hX1] at this;rw [hX3,hX2];exact blk_alloc (blk_alloc this _) _
         have q2:Blk X3 ((w6).heap.size+1) #[.string r.own,.int .i64 r.ty,.int .i64 r.cl,.int .i64 r.tt,.string r.da] 56:=by
          have:=blk_new X1 #[.string r.own,.int .i64 r.ty,.int .i64 r.cl,.int .i64 r.tt,.string r.da] 56;rw [<- hX2,y1] at this;rw [hX3];exact blk_alloc this _
         have q3:Blk X3 ((w6).heap.size+1+1) #[.slice (some ⟨(w6).heap.size,0,none⟩) 1 1,(.slice ua RS.length uc),.slice (some ⟨(w6).heap.size+1,0,none⟩) 1 1] 28:=by
          have:=blk_new X2 #[.slice (some ⟨(w6).heap.size,0,none⟩) 1 1,(.slice ua RS.length uc),.slice (some ⟨(w6).heap.size+1,0,none⟩) 1 1] 28;rw [<- hX3,y2] at this;exact this
         have hcat:=one_cc q1 q2 q3 (CRow.of_owns (own_below o6 t3)) (by omega);have bt:=Nm.below_two bw6 t3;have rr:=fun i=>blk_cell kr6 i
         have rr2:=fun i=>blk_cell (blk_alloc kr6 (.cells #[.string r.own,.int .i64 r.ty,.int .i64 r.cl,.int .i64 r.tt,.string r.da] 56)) i
         clear q1 q2 q3 t1 t2 t3;rw [hX3,hX2,hX1] at hcat;go_wp2_with fail
         rw [<- hX1,<- hX2,<- hX3] at hcat ⊢;clear hX1 hX2 hX3 y1 y2 rr rr2;refine hcat.mono ?_;rintro e wz ⟨uz,rfl,oz,bz⟩;have bwz:=Nm.below_two bt bz;have oz:=own_base oz bt.size;obtain⟨ZZ,hZZ⟩:∃ Z,Z=[r]++RS++[r]:=⟨_,rfl⟩;rw [<- hZZ] at oz HN;clear hZZ;obtain⟨za,zc,rfl⟩:=own_sl oz;clear hcat;go_wp2;go_ret2;rw [HN.out]
         exact⟨_,rfl,oz,bwz⟩
        |some i=>
         rw [hla] at hcp HT;obtain⟨hcr,hil⟩:=hcp;have HU:Hid (R=([r]++((hs.drop i).map (·.1)).flatMap cgR++[r],0)):=by show _=_;rw [HT.out,List.map_drop]
         have hD5:∀ c∈(hs.drop i).map (·.1),c.del.length<=500∧c.add.length<=500:=fun c hc=>hl500 c (by rw [List.map_drop] at hc;exact List.mem_of_mem_drop hc)
         have hDl:((hs.drop i).map (·.1)).length<=40:=by simp;omega
         have hDr:∀ p∈hs.drop i,∀ r∈cgR p.1,r.own.size<=1048576∧r.da.size<=1048576:=fun p hp=>hfh p (List.mem_of_mem_drop hp)
         have hDp:0<(hs.drop i).length:=by simp;omega
         have hle:=flat_tle hD5 hDl;clear HT hla hh hfh hl40 hl500 hil;generalize hs.drop i=ts at*;obtain⟨ta,tc,rfl⟩:∃ a c,u=.slice a ts.length c:=by obtain⟨⟨_,a,c,e,_⟩,_⟩:=hcr;exact⟨a,c,e⟩
         have hct:=hcr.1;obtain⟨_,a',c',e',hcap,hmx,hcells⟩:=hct;cases e'
         obtain⟨tb,toff,rfl,hcell⟩:=hcells hDp;clear hcells;have i1:(0:Int)<(ts.length:Int):=by omega
         have htl:ts.length<=40:=by simpa using hDl
         go_wp2
         go_loopw [11,62] (fun vo ix wr=>∃ j:Nat,j<=ts.length∧ix=.int .i64 j∧wr.ownsRow w6.heap.size 56 5 vo (((ts.map (·.1)).take j).flatMap cgR).length (rvVs (((ts.map (·.1)).take j).flatMap cgR))∧Blk wr w2.heap.size #[.string r.own,.int .i64 r.ty,.int .i64 r.cl,.int .i64 r.tt,.string r.da] 56∧Below w6.heap.size w6 wr) (fun _ ix _=>ts.length-(intOf ix).toNat)
         case atStart=>exact⟨0,Nat.zero_le _,rfl,by simpa [rvVs] using World.ownsRow_nil _ _ _ _,kr6,Below.refl _ _⟩
         case round=>
          obtain⟨j,hj,rfl,oO,krr,hbel⟩:=hrel;have hbw:=Nm.below_two bw6 hbel
          by_cases hlt:j<ts.length
          ·obtain⟨x,hxk⟩:∃ x,ts[j]? =some x:=⟨_,List.getElem?_eq_getElem hlt⟩;obtain⟨⟨c0,c1,c2,c3,c4⟩,⟨c5,c6,c7,c8,c9⟩,c10,c11⟩:=hp_cells (hp_put hbel hcell) hxk;have hxm:=List.mem_of_getElem? hxk;obtain⟨⟨xa,xc,hx1⟩,ya,yc,hx2⟩:=hcr.sl hxm;have hx5:=hD5 x.1 (List.mem_map.2 ⟨x,hxm,rfl⟩);have hrd:=(hcr.below hbel).2 x hxm;have hsz:=hDr x hxm;have HF:=Nm.hide (flat_take (cs_at hxk));have hl1:=hle j;have i2:(0:Int)<=(j:Int):=by omega
           have i3:(j:Int)<(ts.length:Int):=by omega
           clear hxk hcell hxm hle hDr hD5 hcr HU;obtain⟨⟨xo,xn,xd,xe⟩,xv,xu⟩:=x;simp only at c0 c1 c2 c3 c4 c5 c6 c7 c8 c9 c10 c11 hx1 hx2 hx5 hrd hsz HF
           subst hx1 hx2;have cC:=(Below.refl wr.heap.size wr).alloc (Nat.le_refl _) (.cells (cgL xo xn (.slice xa xd.length xc) (.slice ya xe.length yc)).toArray 58);have hrc:=chgRecords_any xo xn _ _ xd xe _ (hrd.1.below cC) (hrd.2.below cC) hx5.1 hx5.2 hsz;have hcp:0<(cgR ⟨xo,xn,xd,xe⟩).length:=by rw [cgR_len];omega
           have hcq:(cgR ⟨xo,xn,xd,xe⟩).length<=2000:=by rw [cgR_len];show xd.length+xe.length+2<=2000;omega
           generalize cgR ⟨xo,xn,xd,xe⟩=CG at*;generalize ((ts.map (·.1)).take j).flatMap cgR=FJ at*;go_wp2_with fail
           go_at_call 35
           refine hrc.mono ?_;rintro e w7 ⟨y,rfl,oY,b7⟩;have bA7:=Nm.below_two cC b7;have hb7:=Nm.below_two hbel bA7;obtain⟨v',w8,hrun,ho8,hg8⟩:=own_appN (own_below oO bA7) (CRow.of_owns oY) hcp (by omega) (by omega) hb7.size;have hlt8:=fun g hg=>((own_below oO bA7).lt g hg).1
           have b8:=hb7.grown hg8 hb7.size hlt8;have kr8:=blk_grown (blk_below krr bA7) hg8 (fun e=>by have:=hlt8 _ e;have:=blk_lt kr6;omega);have o8:w8.ownsRow w6.heap.size 56 5 v' (FJ++CG).length (rvVs (FJ++CG)):=by rw [List.length_append];exact ho8
           obtain⟨FN,hFN⟩:∃ F,F=FJ++CG:=⟨_,rfl⟩;rw [<- hFN] at o8;have HFN:Hid (FN=((ts.map (·.1)).take (j+1)).flatMap cgR):=by show _=_;rw [hFN,HF.out]
           clear hFN HF;obtain⟨oa,oc,rfl⟩:=own_sl oO;obtain⟨pa,pc,rfl⟩:=own_sl oY;obtain⟨qa,qc,rfl⟩:=own_sl o8;clear hrc ho8 hg8 oY bA7 hb7 hlt8 c0 c1 c2 c3 c4 c5 c6 c7 c8 c9 c10 c11 hrd hsz;go_wp2_with (at_builtin;refine wpList_app_ranR rfl (.tmp 66) (.tmp 68) 28 28 rfl _ _ _ _ rfl rfl hrun ?_;clear hrun)
           go_roundw
           case rel=>exact⟨j+1,by omega,by go_num,by rw [<- HFN.out];exact o8,kr8,b8⟩
           case measure=>simp [intOf];omega
          ·have hjl:j=ts.length:=by omega
           subst hjl;have et:(ts.map (·.1)).take ts.length=ts.map (·.1):=List.take_of_length_le (by simp);rw [et] at oO;have hl1:=hle ts.length;rw [et] at hl1;generalize (ts.map (·.1)).flatMap cgR=FL at*;have HN:=HU;have i3:¬(ts.length:Int)<(ts.length:Int):=by omega
           obtain⟨oa,oc,rfl⟩:=own_sl oO;clear et hle hDr hD5 hcr HU hcell;obtain⟨X1,hX1⟩:∃ X,X=World.alloc wr (.cells #[.string r.own,.int .i64 r.ty,.int .i64 r.cl,.int .i64 r.tt,.string r.da] 56):=⟨_,rfl⟩;obtain⟨X2,hX2⟩:∃ X,X=X1.alloc (.cells #[.string r.own,.int .i64 r.ty,.int .i64 r.cl,.int .i64 r.tt,.string r.da] 56):=⟨_,rfl⟩;obtain⟨X3,hX3⟩:∃ X,X=X2.alloc (.cells #[.slice (some ⟨(wr).heap.size,0,none⟩) 1 1,(.slice oa FL.length oc),.slice (some ⟨(wr).heap.size+1,0,none⟩) 1 1] 28):=⟨_,rfl⟩;have y1:X1.heap.size=(wr).heap.size+1:=by rw [hX1];simp
           have y2:X2.heap.size=(wr).heap.size+1+1:=by rw [hX2,World.size_alloc,y1]
           have t1:Below ((wr).heap.size) wr X1:=by rw [hX1];exact(Below.refl _ _).alloc (Nat.le_refl _) _
           have t2:Below ((wr).heap.size) wr X2:=by rw [hX2];exact t1.alloc t1.size _
           have t3:Below ((wr).heap.size) wr X3:=by rw [hX3];exact t2.alloc t2.size _
           have q1:Blk X3 ((wr).heap.size) #[.string r.own,.int .i64 r.ty,.int .i64 r.cl,.int .i64 r.tt,.string r.da] 56:=by
            have:=blk_new wr #[.string r.own,.int .i64 r.ty,.int .i64 r.cl,.int .i64 r.tt,.string r.da] 56;rw [<- hX1] at this;rw [hX3,hX2];exact blk_alloc (blk_alloc this _) _
           have q2:Blk X3 ((wr).heap.size+1) #[.string r.own,.int .i64 r.ty,.int .i64 r.cl,.int .i64 r.tt,.string r.da] 56:=by
            have:=blk_new X1 #[.string r.own,.int .i64 r.ty,.int .i64 r.cl,.int .i64 r.tt,.string r.da] 56;rw [<- hX2,y1] at this;rw [hX3];exact blk_alloc this _
           have q3:Blk X3 ((wr).heap.size+1+1) #[.slice (some ⟨(wr).heap.size,0,none⟩) 1 1,(.slice oa FL.length oc),.slice (some ⟨(wr).heap.size+1,0,none⟩) 1 1] 28:=by
            have:=blk_new X2 #[.slice (some ⟨(wr).heap.size,0,none⟩) 1 1,(.slice oa FL.length oc),.slice (some ⟨(wr).heap.size+1,0,none⟩) 1 1] 28;rw [<- hX3,y2] at this;exact this
           have hcat:=one_cc q1 q2 q3 (CRow.of_owns (own_below oO t3)) (by omega);have bt:=Nm.below_two hbw t3;have rr:=fun i=>blk_cell krr i
           have rr2:=fun i=>blk_cell (blk_alloc krr (.cells #[.string r.own,.int .i64 r.ty,.int .i64 r.cl,.int .i64 r.tt,.string r.da] 56)) i
           clear q1 q2 q3 t1 t2 t3;rw [hX3,hX2,hX1] at hcat;go_wp2_with fail
           rw [<- hX1,<- hX2,<- hX3] at hcat ⊢;clear hX1 hX2 hX3 y1 y2 rr rr2;refine hcat.mono ?_;rintro e wz ⟨uz,rfl,oz,bz⟩;have bwz:=Nm.below_two bt bz;have oz:=own_base oz bt.size;obtain⟨ZZ,hZZ⟩:∃ Z,Z=[r]++FL++[r]:=⟨_,rfl⟩;rw [<- hZZ] at oz HN;clear hZZ;obtain⟨za,zc,rfl⟩:=own_sl oz;clear hcat;go_wp2;go_ret2;rw [HN.out];exact⟨_,rfl,oz,bwz⟩
      ·have HN:Hid (R=([],6)):=by show _=_;rw [HQ.out,if_neg (by rintro(h|h)<;>contradiction)]
       have e3:decide (qt=252∨qt=251)=false:=by simp [q1,q2]
       rw [e3] at hit;clear HQ q1 q2 e3 hh hfh;go_wp2_with fail
       go_at_call 31
       refine(hit _).mono ?_;rintro e w5 ⟨rfl,hw⟩;obtain rfl:=hw.symm;clear hw hit rr4;go_wp2;go_ret2;rw [HN.out];exact⟨.slice none 0 0,rfl,World.ownsRow_nil _ _ _ _,bw4⟩
def setL(cs:List Value)(i:Nat):List Value->List Value
 |[]=>cs
 |v::vs=>setL (cs.set i v) (i+1) vs
theorem setL_take:∀ (vs cs A:List Value) (i:Nat),cs.take i=A->i+vs.length<=cs.length->(setL cs i vs).take (i+vs.length)=A++vs:=by
 intro vs
 induction vs with
 |nil=>intro cs A i h _;simpa [setL] using h
 |cons v vs ih=>
  intro cs A i h hl;simp only [List.length_cons] at hl
  have e:(cs.set i v).take (i+1)=A++[v]:=by
   rw [List.take_add_one,List.getElem?_set_self (by omega),List.take_set,List.set_eq_of_length_le (by simp;omega),h];rfl
  have:=ih (cs.set i v) (A++[v]) (i+1) e (by simp;omega);rw [setL,List.length_cons,show i+(vs.length+1)=i+1+vs.length by omega,this];simp
theorem own_setL{B e s n g cap:Nat}:∀ (vs:List Value) (i:Nat) (W:World) (cs:List Value),W.ownsRow B e s (.slice (some ⟨g,0,none⟩) n cap) n cs->(setAll W g i vs).ownsRow B e s (.slice (some ⟨g,0,none⟩) n cap) n (setL cs i vs)
 |[],_,_,_,h=>h
 |v::vs,i,W,cs,h=>own_setL vs (i+1) _ _ (h.stored i v).1
theorem own_setF{B e s n g:Nat}{v:Value}{xs:List Value}(hne:v.ownBlock≠some g):∀ (vs:List Value) (i:Nat) (W:World),W.ownsRow B e s v n xs->(setAll W g i vs).ownsRow B e s v n xs
 |[],_,_,h=>h
 |y::vs,i,W,h=>own_setF hne vs (i+1) _ (own_far h hne)
theorem twelve_at{w:World}{B e g n cap k:Nat}{cs:List Value}(h:w.ownsRow B e 12 (.slice (some ⟨g,0,none⟩) n cap) n cs)(hk:k<n)(j:Nat)(hj:j<12):∃ y,w.cell? ⟨g,k*12+j,none⟩=some y:=by
 rw [h.cellAt (k*12+j) (by omega)];have:=h.1;exact⟨_,List.getElem?_eq_getElem (by omega)⟩
theorem Tryz.infoChg:(Tryz.prog.info? 58).map (fun i=>(i.zero,i.size,i.bytes))=some (some (.agg #[.string ByteArray.empty,.int .i64 0,.int .i64 0,.int .i64 0,.string ByteArray.empty,.string ByteArray.empty,.int .i64 0,.int .i64 0,.int .i64 0,.string ByteArray.empty,.slice none 0 0,.slice none 0 0]),12,160):=by kernel_rfl
set_option maxRecDepth 100000 in
set_option maxHeartbeats 3200000 in
theorem toChangeS_any(v:Value)(ps:List Hp)(w:World)(h:HRow w v ps)(hlen:ps.length<=1048576)(hd:∀ p∈ps,p.1.del.length<=1048576∧p.1.add.length<=1048576):
 Calls Tryz.prog 8 #[v] w fun e w'=>∃ u qs,e=.returned u∧qs.map (·.1)=ps.map (·.1)∧OH w' w.heap.size u qs∧Below w.heap.size w w':=by
 obtain⟨i0,hi,hz0,hz1,hz2⟩:=info_parts Tryz.infoChg;have hsl:=fun(p:Hp) (hp:p∈ps)=>h.sl hp
 obtain⟨⟨_,a,cap,rfl,hcap,hmx,hc⟩,hrow⟩:=h;unfold maxLen at hmx;have hto:=fun(p:Hp) (hp:p∈ps) W (hW:Below w.heap.size w W)=>toChange_any p.1.old p.1.new p.2.1 p.2.2 p.1.del p.1.add W ((hrow p hp).1.below hW) ((hrow p hp).2.below hW) (hd p hp).1 (hd p hp).2
 clear hrow hd;go_enter Tryz.func8,Tryz.ntmps8;go_wp2_with (at_make;refine wpList_make_full _ rfl (.tmp 6) (.tmp 6) 35 rfl w.heap.size 58 i0 _ 12 Tryz.underlying35 hi hz0 hz1 .i64 .i64 _ _ ps.length rfl rfl rfl rfl (by rw [hz2];omega) (by unfold maxLen;omega) (Nat.le_refl _) ?_;intro w2 hown0 hgrow0)
 generalize hcs0:(madeCells (Value.agg #[.string ByteArray.empty,.int .i64 0,.int .i64 0,.int .i64 0,.string ByteArray.empty,.string ByteArray.empty,.int .i64 0,.int .i64 0,.int .i64 0,.string ByteArray.empty,.slice none 0 0,.slice none 0 0]).cells (ps.length*12)).toList=cs0 at hown0;clear hcs0
 go_loopw [4] (fun i wr=>∃ (k:Nat) (cs:List Value) (qs:List Hp),k<=ps.length∧i=.int .i64 k∧wr.ownsRow w.heap.size 58 12 (.slice (some ⟨w.heap.size,0,none⟩) ps.length ps.length) ps.length cs∧Hid (cs.take (k*12)=hpVs qs)∧Hid (qs.map (·.1)=(ps.take k).map (·.1))∧Hid (∀ p∈qs,wr.ownsRow w.heap.size 56 5 p.2.1 p.1.del.length (rvVs p.1.del)∧wr.ownsRow w.heap.size 56 5 p.2.2 p.1.add.length (rvVs p.1.add))∧Below w.heap.size w wr)
  (fun i _=>ps.length-(intOf i).toNat)
 case atStart=>exact⟨0,cs0,[],Nat.zero_le _,rfl,hown0,by show _=_;simp [hpVs],by show _=_;simp,by intro q hq;simp at hq,(Below.refl _ w).grown hgrow0 (Nat.le_refl _) (fun k hk=>by cases hk)⟩
 case round=>
  obtain⟨k,cs,qs,hk,rfl,hown,HT,HQ,HO,hbel⟩:=hrel;clear hown0 hgrow0
  by_cases hlt:k<ps.length
  ·obtain⟨x,hx⟩:∃ x,ps[k]? =some x:=⟨_,List.getElem?_eq_getElem hlt⟩;obtain⟨b,off,rfl,hcell⟩:=hc (by omega);obtain⟨⟨c0,c1,c2,c3,c4⟩,⟨c5,c6,c7,c8,c9⟩,c10,c11⟩:=hp_cells (hp_put hbel hcell) hx;obtain⟨⟨xa,xc,hx1⟩,ya,yc,hx2⟩:=hsl x (List.mem_of_getElem? hx);have i1:(0:Int)<=(k:Int):=by omega
   have i2:(k:Int)<(ps.length:Int):=by omega
   have hone:=hto x (List.mem_of_getElem? hx) wr hbel
   have HQ2:Hid (∀ u:Value×Value,(qs++[(x.1,u)]).map (·.1)=(ps.take (k+1)).map (·.1)):=by
    intro u;rw [List.map_append,HQ.out,List.take_add_one,hx,List.map_append];rfl
   have HT3:Hid (∀ d e:Value,(setL cs (k*12) (cgL x.1.old x.1.new d e)).take ((k+1)*12)=hpVs (qs++[(x.1,d,e)])):=by
    intro d e;have h12:=setL_take (cgL x.1.old x.1.new d e) cs _ (k*12) HT.out (by have:=hown.1;simp;omega);rw [show(k+1)*12=k*12+(cgL x.1.old x.1.new d e).length by simp;omega,h12,hpVs_app];simp [hpVs,hpV]
   clear hcell hc HT HQ hto hx hsl;obtain⟨⟨xo,xn,xd,xe⟩,xv,xu⟩:=x;simp only at c0 c1 c2 c3 c4 c5 c6 c7 c8 c9 c10 c11 hx1 hx2 hone HQ2 HT3
   subst hx1 hx2;go_wp2_with fail
   refine hone.mono ?_;rintro e w1 ⟨d',e',rfl,co,hb1⟩;obtain⟨⟨da,dc,rfl⟩,ea,ec,rfl⟩:=co.sl;have ho1:=own_below hown hb1;obtain⟨y0,hy0⟩:=twelve_at ho1 hlt 0 (by decide);obtain⟨y1,hy1⟩:=twelve_at ho1 hlt 1 (by decide);obtain⟨y2,hy2⟩:=twelve_at ho1 hlt 2 (by decide);obtain⟨y3,hy3⟩:=twelve_at ho1 hlt 3 (by decide);obtain⟨y4,hy4⟩:=twelve_at ho1 hlt 4 (by decide);obtain⟨y5,hy5⟩:=twelve_at ho1 hlt 5 (by decide);obtain⟨y6,hy6⟩:=twelve_at ho1 hlt 6 (by decide);obtain⟨y7,hy7⟩:=twelve_at ho1 hlt 7 (by decide);obtain⟨y8,hy8⟩:=twelve_at ho1 hlt 8 (by decide);obtain⟨y9,hy9⟩:=twelve_at ho1 hlt 9 (by decide);obtain⟨y10,hy10⟩:=twelve_at ho1 hlt 10 (by decide);obtain⟨y11,hy11⟩:=twelve_at ho1 hlt 11 (by decide);rw [Nat.add_zero] at hy0;have fz:=ho1.frozenAt
   have HX:Hid ((setAll w1 w.heap.size (k*12) (cgL xo xn (.slice da xd.length dc) (.slice ea xe.length ec))).ownsRow w.heap.size 58 12 (.slice (some ⟨w.heap.size,0,none⟩) ps.length ps.length) ps.length (setL cs (k*12) (cgL xo xn (.slice da xd.length dc) (.slice ea xe.length ec)))∧(∀ p∈qs++[((⟨xo,xn,xd,xe⟩:Cg),Value.slice da xd.length dc,Value.slice ea xe.length ec)],(setAll w1 w.heap.size (k*12) (cgL xo xn (.slice da xd.length dc) (.slice ea xe.length ec))).ownsRow w.heap.size 56 5 p.2.1 p.1.del.length (rvVs p.1.del)∧(setAll w1 w.heap.size (k*12) (cgL xo xn (.slice da xd.length dc) (.slice ea xe.length ec))).ownsRow w.heap.size 56 5 p.2.2 p.1.add.length (rvVs p.1.add))∧Below w.heap.size w (setAll w1 w.heap.size (k*12) (cgL xo xn (.slice da xd.length dc) (.slice ea xe.length ec)))):=by
    refine⟨own_setL _ _ _ _ ho1,fun p hp=>?_,below_setA (Nat.le_refl _) _ _ _ (Nm.below_two hbel hb1)⟩
    have hq1:w1.ownsRow w.heap.size 56 5 p.2.1 p.1.del.length (rvVs p.1.del)∧w1.ownsRow w.heap.size 56 5 p.2.2 p.1.add.length (rvVs p.1.add):=by
     rcases List.mem_append.1 hp with h1|h1
     ·exact⟨own_below (HO.out p h1).1 hb1,own_below (HO.out p h1).2 hb1⟩
     ·simp only [List.mem_singleton] at h1;subst h1;obtain⟨M,m1,m2,m3,-⟩:=co;exact⟨own_base m2 hbel.size,own_base m3 (Nat.le_trans hbel.size m1)⟩
    exact⟨own_setF (own_ne hq1.1 ho1 (by decide)) _ _ _ hq1.1,own_setF (own_ne hq1.2 ho1 (by decide)) _ _ _ hq1.2⟩
   simp only [setAll,Nat.add_assoc,Nat.reduceAdd] at HX;have HT4:=Nm.hide (HT3.out (.slice da xd.length dc) (.slice ea xe.length ec));clear hone co HO HT3 ho1 hown hbel hb1 c0 c1 c2 c3 c4 c5 c6 c7 c8 c9 c10 c11;go_wp2;go_roundw
   case rel=>exact⟨k+1,_,qs++[(⟨xo,xn,xd,xe⟩,.slice da xd.length dc,.slice ea xe.length ec)],by omega,by go_num,HX.out.1,HT4,Nm.hide (HQ2.out _),Nm.hide HX.out.2.1,HX.out.2.2⟩
   case measure=>simp [intOf];omega
  ·have hkl:k=ps.length:=by omega
   have hcs:cs=hpVs qs:=by
    have e:=HT.out;have hl:=hown.1;rw [hkl,List.take_of_length_le (by omega)] at e;exact e
   have hqs:qs.map (·.1)=ps.map (·.1):=by
    have:=HQ.out
    rwa [hkl,List.take_length] at this
   have hql:qs.length=ps.length:=by have:=congrArg List.length hqs;simpa using this
   subst hcs;have i2:(ps.length:Int)<=(k:Int):=by omega
   clear hc hlt HT hto HQ hsl;go_wp2;go_ret;refine⟨_,rfl,qs,hqs,⟨?_,HO.out⟩,hbel⟩;rw [hql];exact hown
def hk1(c:Cg):Nat:=10+c.del.length*5+c.add.length*5
def hkl:List Hp->Nat
 |[]=>0
 |x::xs=>hk1 x.1+hkl xs
theorem hkl_step:∀ (xs:List Hp) (k:Nat) (x:Hp),xs[k]? =some x->hkl (xs.take (k+1))=hkl (xs.take k)+hk1 x.1:=by
 intro xs
 induction xs with
 |nil=>intro k x h;simp at h
 |cons y xs ih=>
  intro k x h
  cases k with
  |zero=>simp at h;subst h;simp [hkl]
  |succ k=>
   simp at h;have:=ih k x h;simp only [List.take_succ_cons,hkl];omega
theorem hkl_take_le:∀ (xs:List Hp) (k:Nat),hkl (xs.take k)<=hkl xs:=by
 intro xs
 induction xs with
 |nil=>intro k;simp [hkl]
 |cons y xs ih=>
  intro k
  cases k with
  |zero=>simp [hkl]
  |succ k=>have:=ih k;simp only [List.take_succ_cons,hkl];omega
theorem hkl_len(xs:List Hp):xs.length<=hkl xs:=by
 induction xs with
 |nil=>simp [hkl]
 |cons y xs ih=>simp only [hkl,hk1,List.length_cons];omega
def SH(w:World)(g:Nat)(qs:List Hp)(cur:Array Value):Prop:=Blk w g cur 58∧qs.length*12<=cur.size∧∀ (j:Nat) (q:Hp),qs[j]? =some q->cur[j*12+10]? =some q.2.1∧cur[j*12+11]? =some q.2.2
theorem SH.set{w:World}{g i:Nat}{qs:List Hp}{cur:Array Value}(h:SH w g qs cur)(y:Value)(hc:i % 12<10):SH (w.setCell ⟨g,i,none⟩ y) g qs (cur.setIfInBounds i y):=by
 refine⟨blk_set h.1 _ _,by simpa using h.2.1,fun j q hj=>?_⟩;rw [Array.getElem?_setIfInBounds_ne (by omega),Array.getElem?_setIfInBounds_ne (by omega)];exact h.2.2 j q hj
theorem SH.below{w W:World}{g:Nat}{qs:List Hp}{cur:Array Value}(h:SH w g qs cur)(hb:Below w.heap.size w W):SH W g qs cur:=⟨blk_below h.1 hb,h.2⟩
theorem SH.grown{w W:World}{g:Nat}{qs:List Hp}{cur:Array Value}{r:Option Nat}(h:SH w g qs cur)(hg:w.grownBy W r)(hr:r≠some g):SH W g qs cur:=⟨blk_grown h.1 hg hr,h.2⟩
theorem Mj.low{B C:Nat}{w w1 w2:World}(h:Mj B C w w1)(hb:Below w1.heap.size w1 w2):Mj B C w w2:=h.step ((Mk.refl B C 0 w1).below hb)
theorem Mj.put{B C g i T:Nat}{w w1:World}{cur:Array Value}(h:Mj B C w w1)(hB:B<=g)(hC:g<C)(hg:w1.heap[g]? =some (.cells cur T (0,0)))(y:Value):Mj B C w (w1.setCell ⟨g,i,none⟩ y):=h.step ((Mk.refl B C T w1).set hB hC hg y)
theorem Mj.row{B C e s n:Nat}{w w1 w2:World}{v:Value}{xs ys:List Value}(h:Mj B C w w1)(h1:w1.ownsRow B e s v n xs)(h2:w2.ownsRow B e s v n ys)(hg:w1.grownBy w2 v.ownBlock)(hC:∀ g,v.ownBlock=some g->g<C):Mj B C w w2:=by
 have hB:=fun g hg=>(h1.lt g hg).1
 refine⟨hg.os.trans h.os,hg.tape.trans h.tape,hg.output.trans h.output,Nat.le_trans h.size hg.size,fun k hk hr=>(hg.block k (Nat.lt_of_lt_of_le hk h.size) (fun e=>by have:=hB k e.symm;have:=hC k e.symm;omega)).trans (h.block k hk hr),fun g cur t hc=>?_⟩;obtain⟨c1,p1,p2⟩:=h.shape g cur t hc
 by_cases hv:v.ownBlock=some g
 ·rcases h1.2 with⟨rfl,_⟩|⟨g1,cap1,cur1,e1,_,q1,_,_,s1,_⟩
  ·cases hv
  ·rcases h2.2 with⟨rfl,_⟩|⟨g2,cap2,cur2,e2,_,q2,_,_,s2,_⟩
   ·cases hv
   ·subst e1;simp only [Value.ownBlock,Option.some.injEq] at hv;subst hv;simp only [Value.slice.injEq,Option.some.injEq,Addr.mk.injEq] at e2;obtain⟨⟨rfl,-⟩,-,rfl⟩:=e2;rw [p1] at q1;simp only [Option.some.injEq,Obj.cells.injEq] at q1;obtain⟨rfl,rfl,-⟩:=q1;exact⟨cur2,q2,by omega⟩
 ·exact⟨c1,(hg.block g (heap_lt p1) (fun e=>hv e.symm)).trans p1,p2⟩
theorem own_shape{B C e s n:Nat}{w w1:World}{v:Value}{xs:List Value}(h:w.ownsRow B e s v n xs)(hm:Mj B C w w1):∃ ys,w1.ownsRow B e s v n ys:=by
 rcases h.2 with⟨rfl,rfl⟩|⟨g,cap,cur,rfl,hb,hg,hn,hmx,hs,ht⟩
 ·exact⟨[],World.ownsRow_nil _ _ _ _⟩
 ·obtain⟨c1,p1,p2⟩:=hm.shape g cur e hg;refine⟨c1.toList.take (n*s),?_,.inr ⟨g,cap,c1,rfl,hb,p1,hn,hmx,by omega,rfl⟩⟩;have:n*s<=cap*s:=Nat.mul_le_mul_right _ hn;simp
  omega
theorem SH.all{w0:World}{B C g j:Nat}{qs:List Hp}(hB:B<=g)(hC:g<C):∀ (vs:List Value) (i:Nat) (w:World) (cur:Array Value),SH w g qs cur->j*12<=i->i+vs.length<=j*12+10->Mj B C w0 w->(∃ cur',SH (setAll w g i vs) g qs cur')∧Mj B C w0 (setAll w g i vs)
 |[],_,_,cur,h,_,_,hm=>⟨⟨cur,h⟩,hm⟩
 |v::vs,i,w,cur,h,h1,h2,hm=>SH.all (j:=j) hB hC vs (i+1) _ _ (h.set v (by simp only [List.length_cons] at h2;omega)) (by omega) (by simp only [List.length_cons] at h2;omega) (hm.put hB hC h.1 v)
theorem SH.cell{w:World}{g j:Nat}{qs:List Hp}{cur:Array Value}(h:SH w g qs cur)(hj:j<qs.length)(i:Nat)(hi:i<12):∃ y,w.cell? ⟨g,j*12+i,none⟩=some y:=by
 have:=h.2.1;exact⟨cur[j*12+i]'(by omega),(blk_cell h.1 _).trans (Array.getElem?_eq_getElem (by omega))⟩
theorem own_ne5{w:World}{B g n:Nat}{v:Value}{xs:List Value}{cur:Array Value}(h:w.ownsRow B 56 5 v n xs)(k:Blk w g cur 58)(e:v.ownBlock=some g):False:=by
 rcases h.2 with⟨rfl,_⟩|⟨g1,cap1,cur1,rfl,_,q1,_⟩
 ·cases e
 ·simp only [Value.ownBlock,Option.some.injEq] at e;subst e;have q2:w.heap[g1]? =some (.cells cur 58 (0,0)):=k;rw [q1] at q2;simp at q2
set_option maxRecDepth 100000 in
set_option maxHeartbeats 6400000 in
theorem markChangeS_mk(v:Value)(qs:List Hp)(B C k:Nat)(w:World)(h:OH w B v qs)(hB:B<=w.heap.size)(hC:∀ g,v.ownBlock=some g->g<C)(hCD:∀ q∈qs,(∀ g,q.2.1.ownBlock=some g->g<C)∧∀ g,q.2.2.ownBlock=some g->g<C)(hn:k+hkl qs<=90000000)(hl:∀ q∈qs,q.1.del.length<=1100000∧q.1.add.length<=1100000):
 Calls Tryz.prog 14 #[v,.int .i64 (k:Int)] w fun e w'=>e=.returned (.int .i64 ((k+hkl qs:Nat):Int))∧Mj B C w w':=by
 have hql0:=hkl_len qs;have hql1:qs.length<=90000000:=by omega
 have hSV0:0<qs.length->∃ g cap cur,v=.slice (some ⟨g,0,none⟩) qs.length cap∧B<=g∧g<C∧SH w g qs cur:=by
  intro hp
  rcases h.1.2 with⟨_,h0⟩|⟨g,cap,cur,rfl,hb,hg,hn,hm,hs,ht⟩
  ·omega
  ·refine⟨g,cap,cur,rfl,hb,hC g rfl,hg,by rw [hs];exact Nat.mul_le_mul_right _ hn,fun j q hj=>?_⟩;have hjl:j<qs.length:=(List.getElem?_eq_some_iff.1 hj).1;have e10:=(hpVs_at qs j 10 q hj (by decide));have e11:=(hpVs_at qs j 11 q hj (by decide));rw [<- ht,List.getElem?_take_of_lt (by omega)] at e10 e11;have f10:cur.toList[j*12+10]? =some q.2.1:=e10;have f11:cur.toList[j*12+11]? =some q.2.2:=e11;exact⟨by simpa using f10,by simpa using f11⟩
 have hmt:=fun(j:Nat) (hj:j<=1000000000) W=>markText_any j W hj
 have hD0:=fun(q:Hp) (hq:q∈qs) W (hW:Mj B C w W)=>And.intro (own_shape (h.2 q hq).1 hW) (own_shape (h.2 q hq).2 hW)
 have hds:∀ q∈qs,(∃ a c,q.2.1=.slice a q.1.del.length c)∧∃ a c,q.2.2=.slice a q.1.add.length c:=fun q hq=>⟨own_sl (h.2 q hq).1,own_sl (h.2 q hq).2⟩
 obtain⟨a,cap,rfl⟩:=own_sl h.1;clear h hC;go_enter Tryz.func14,Tryz.ntmps14;go_wp2
 go_loopw [1,5] (fun t i wr=>∃ j:Nat,j<=qs.length∧i=.int .i64 (j:Int)∧t=.int .i64 ((k+hkl (qs.take j):Nat):Int)∧Mj B C w wr∧Hid (∀ g,a=some ⟨g,0,none⟩->0<qs.length->∃ cur,SH wr g qs cur)) (fun _ i _=>qs.length-(intOf i).toNat)
 case atStart=>
  refine⟨0,Nat.zero_le _,rfl,by simp [hkl],Mj.refl _ _ _,?_⟩;intro g hg hp;obtain⟨g',cap',cur,e1,_,_,hsv⟩:=hSV0 hp;subst hg;simp only [Value.slice.injEq,Option.some.injEq,Addr.mk.injEq] at e1;obtain⟨⟨rfl,_⟩,_⟩:=e1;exact⟨cur,hsv⟩
 case round=>
  obtain⟨j,hj,rfl,rfl,hm,HV⟩:=hrel
  by_cases hlt:j<qs.length
  ·obtain⟨q,hq⟩:∃ q,qs[j]? =some q:=⟨_,List.getElem?_eq_getElem hlt⟩;obtain⟨g,cap',cur0,e1,hBg,hgC,_⟩:=hSV0 (by omega);simp only [Value.slice.injEq] at e1;obtain⟨rfl,_,rfl⟩:=e1;obtain⟨cur,hsv⟩:=HV.out g rfl (by omega);have hqm:=List.mem_of_getElem? hq;have hst:=hkl_step qs j q hq;have hle:=hkl_take_le qs (j+1);obtain⟨⟨xa,xc,hx1⟩,ya,yc,hx2⟩:=hds q hqm;have hql:=hl q hqm;have hqC:=hCD q hqm;have HD:=Nm.hide (fun W hW=>hD0 q hqm W hW);have HQJ:=Nm.hide hq;have i1:(0:Int)<=(j:Int):=by omega
   have i2:(j:Int)<(qs.length:Int):=by omega
   clear hSV0 HV hq hD0 hds hl hCD hqm;obtain⟨⟨xo,xn,xd,xe⟩,xv,xu⟩:=q;simp only at hx1 hx2 hql hqC HD hst
   subst hx1 hx2;rw [hk1] at hst;simp only at hst
   generalize hz0:k+hkl (qs.take j)=z0 at*;have hz1:k+hkl (qs.take (j+1))=z0+10+xd.length*5+xe.length*5:=by omega
   have hzb:z0+10+xd.length*5+xe.length*5<=90000000:=by omega
   have m0:=fun W=>hmt z0 (by omega) W
   have m4:=fun W=>hmt (z0+4) (by omega) W
   have m5:=fun W=>hmt (z0+5) (by omega) W
   have m9:=fun W=>hmt (z0+9) (by omega) W
   rw [show((z0+4:Nat):Int)=(z0:Int)+1+1+1+1 by omega] at m4;rw [show((z0+5:Nat):Int)=(z0:Int)+1+1+1+1+1 by omega] at m5;rw [show((z0+9:Nat):Int)=(z0:Int)+1+1+1+1+1+1+1+1+1 by omega] at m9;have HZ:=Nm.hide hz1;clear hz1 hz0 hst hle hmt hn hql0;obtain⟨K1,hK1⟩:∃ K1:Nat,K1=z0+10+xd.length*5:=⟨_,rfl⟩;obtain⟨K2,hK2⟩:∃ K2:Nat,K2=K1+xe.length*5:=⟨_,rfl⟩;have mkA:=fun W ys (oy:W.ownsRow B 56 5 (.slice xa xd.length xc) xd.length ys) (hW:B<=W.heap.size)=>markRRS_any _ xd.length B (z0+10) ys W oy hW hql.1 (by omega)
   have mkB:=fun W ys (oy:W.ownsRow B 56 5 (.slice ya xe.length yc) xe.length ys) (hW:B<=W.heap.size)=>markRRS_any _ xe.length B K1 ys W oy hW hql.2 (by omega)
   rw [<- hK1,show((z0+10:Nat):Int)=(z0:Int)+1+1+1+1+1+1+1+1+1+1 by omega] at mkA;rw [<- hK2] at mkB;have HK2:Hid (K2=z0+10+xd.length*5+xe.length*5):=by show _=_;omega
   clear hK1 hK2;go_wp2_with fail
   refine(m0 _).mono ?_;rintro e w1 ⟨rfl,hb1⟩;have sv1:=hsv.below hb1;have mv1:=hm.low hb1;obtain⟨y0,hy0⟩:=sv1.cell hlt 0 (by decide);obtain⟨y1,hy1⟩:=sv1.cell hlt 1 (by decide);obtain⟨y2,hy2⟩:=sv1.cell hlt 2 (by decide);obtain⟨y3,hy3⟩:=sv1.cell hlt 3 (by decide);rw [Nat.add_zero] at hy0;have fz1:=fun i=>blk_frozen sv1.1 i
   have HX1:=Nm.hide (SH.all (j:=j) (w0:=w) hBg hgC [.string (mkS z0),.int .i64 ((z0:Int)+1),.int .i64 ((z0:Int)+1+1),.int .i64 ((z0:Int)+1+1+1)] (j*12) _ _ sv1 (by omega) (by simp) mv1);simp only [setAll,Nat.add_assoc,Nat.reduceAdd] at HX1;clear sv1 mv1;go_wp2_with fail
   obtain⟨⟨cu1,hs1⟩,hm1⟩:=HX1.out;clear HX1 fz1 hy0 hy1 hy2 hy3;refine(m4 _).mono ?_;rintro e w2 ⟨rfl,hb2⟩;have sv2:=hs1.below hb2;have mv2:=hm1.low hb2;obtain⟨y4,hy4⟩:=sv2.cell hlt 4 (by decide);have fz2:=fun i=>blk_frozen sv2.1 i
   have HX2:=Nm.hide (SH.all (j:=j) (w0:=w) hBg hgC [.string (mkS (z0+4))] (j*12+4) _ _ sv2 (by omega) (by simp) mv2);simp only [setAll] at HX2;clear sv2 mv2 hs1 hm1;go_wp2_with fail
   obtain⟨⟨cu2,hs2⟩,hm2⟩:=HX2.out;clear HX2 fz2 hy4;refine(m5 _).mono ?_;rintro e w3 ⟨rfl,hb3⟩;have sv3:=hs2.below hb3;have mv3:=hm2.low hb3;obtain⟨y5,hy5⟩:=sv3.cell hlt 5 (by decide);obtain⟨y6,hy6⟩:=sv3.cell hlt 6 (by decide);obtain⟨y7,hy7⟩:=sv3.cell hlt 7 (by decide);obtain⟨y8,hy8⟩:=sv3.cell hlt 8 (by decide);have fz3:=fun i=>blk_frozen sv3.1 i
   have HX3:=Nm.hide (SH.all (j:=j) (w0:=w) hBg hgC [.string (mkS (z0+5)),.int .i64 ((z0:Int)+1+1+1+1+1+1),.int .i64 ((z0:Int)+1+1+1+1+1+1+1),.int .i64 ((z0:Int)+1+1+1+1+1+1+1+1)] (j*12+5) _ _ sv3 (by omega) (by simp) mv3);simp only [setAll,Nat.add_assoc,Nat.reduceAdd] at HX3;clear sv3 mv3 hs2 hm2;go_wp2_with fail
   obtain⟨⟨cu3,hs3⟩,hm3⟩:=HX3.out;clear HX3 fz3 hy5 hy6 hy7 hy8;refine(m9 _).mono ?_;rintro e w4 ⟨rfl,hb4⟩;have sv4:=hs3.below hb4;have mv4:=hm3.low hb4;obtain⟨y9,hy9⟩:=sv4.cell hlt 9 (by decide);have fz4:=fun i=>blk_frozen sv4.1 i
   have HX4:=Nm.hide (SH.all (j:=j) (w0:=w) hBg hgC [.string (mkS (z0+9))] (j*12+9) _ _ sv4 (by omega) (by simp) mv4);simp only [setAll] at HX4;clear sv4 mv4 hs3 hm3;obtain⟨⟨cu4,hs4⟩,hm4⟩:=HX4.out;have d10:=(blk_cell hs4.1 (j*12+10)).trans (hs4.2.2 j _ HQJ.out).1;go_wp2_with fail
   clear HX4 fz4 hy9;obtain⟨⟨ys1,oy1⟩,-⟩:=HD.out _ hm4;refine(mkA _ _ oy1 (Nat.le_trans hB hm4.size)).mono ?_;rintro e w5 ⟨rfl,oz1,g5⟩;have hs5:=hs4.grown g5 (fun e=>own_ne5 oy1 hs4.1 e);have hm5:=hm4.row oy1 oz1 g5 hqC.1;have d11:=(blk_cell hs5.1 (j*12+11)).trans (hs5.2.2 j _ HQJ.out).2;obtain⟨-,ys2,oy2⟩:=HD.out _ hm5;clear d10 hs4 hm4 oy1 oz1 g5;go_wp2_with fail
   refine(mkB _ _ oy2 (Nat.le_trans hB hm5.size)).mono ?_;rintro e w6 ⟨rfl,oz2,g6⟩;have hs6:=hs5.grown g6 (fun e=>own_ne5 oy2 hs5.1 e);have hm6:=hm5.row oy2 oz2 g6 hqC.2;clear d11 hs5 hm5 oy2 oz2 g6 m0 m4 m5 m9 mkA mkB HD;go_wp2;go_roundw
   case rel=>
    refine⟨j+1,by omega,by go_num,by rw [HZ.out,<- HK2.out],hm6,?_⟩;intro g' hg' hp;cases hg'
    exact⟨_,hs6⟩
   case measure=>simp [intOf];omega
  ·have hjn:j=qs.length:=by omega
   subst hjn;clear hmt hSV0 HV hD0 hds hl hCD;have i2:(qs.length:Int)<=(qs.length:Int):=by omega
   rw [List.take_length];go_wp2;go_ret;exact⟨rfl,hm⟩
end Go.Proofs.YtgilkakllagbnaaGreat
