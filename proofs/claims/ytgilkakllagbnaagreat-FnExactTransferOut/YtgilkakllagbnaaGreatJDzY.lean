import Derived.Test.YtgilkakllagbnaaGreatJStB
import Derived.Test.YtgilkakllagbnaaGreatJTzM
import Derived.Test.YtgilkakllagbnaaGreatJCzS
import Derived.Test.YtgilkakllagbnaaGreatJCzI
import Derived.Test.YtgilkakllagbnaaGreatJZnM
import Derived.Test.YtgilkakllagbnaaGreatJZbLb
namespace Go.Proofs.YtgilkakllagbnaaGreat
open Go.RowKit
set_option linter.unusedVariables false
theorem rest_yes{xs:List Rr}{j:Nat}{x:Rr}(h:xs[j]? =some x)(hb:x.ty=6):restR (xs.take (j+1))=restR (xs.take j):=by
 rw [restR,List.take_add_one,h,List.filter_append];simp [restR,is6,hb]
theorem rest_no{xs:List Rr}{j:Nat}{x:Rr}(h:xs[j]? =some x)(hb:x.ty≠6):restR (xs.take (j+1))=restR (xs.take j)++[x]:=by
 rw [restR,List.take_add_one,h,List.filter_append];simp [restR,is6,hb]
theorem rest_len(xs:List Rr)(j:Nat):(restR (xs.take j)).length<=j:=by
 have h1:=List.length_filter_le (fun x=> !is6 x) (xs.take j);have h2:=List.length_take_le j xs;unfold restR;omega
set_option maxRecDepth 100000 in
set_option maxHeartbeats 1600000 in
theorem l11Rest_any(o:ByteArray)(v:Value)(ps:List Zp)(w:World)(h:ZRow w v ps)(hs:zsum ps<=1048576)(hl:ps.length<=1048576):
 Calls Tryz.prog 51 #[.agg #[.string o,v]] w fun e w'=>∃ z,e=.returned z∧w'.ownsRow w.heap.size 56 5 z (restR (zoneRecs ps)).length (rvVs (restR (zoneRecs ps)))∧Below w.heap.size w w':=by
 obtain⟨i0,hi,hz0,hz1,hz2⟩:=info_parts Tryz.infoRw;have hlen:=zr_len ps;obtain⟨va,vc,rfl⟩:∃ va vc,v=.slice va ps.length vc:=by obtain⟨⟨_,a,c,e,_⟩,_⟩:=h;exact⟨a,c,e⟩
 have bb:=(Below.refl w.heap.size w).alloc (Nat.le_refl _) (.cells #[.string o,.slice va ps.length vc] 33);have kb:=blk_alloc (blk_new w #[.string o,.slice va ps.length vc] 33) (.cells #[] 56);have o0:=World.ownsRow_lit (base:=w.heap.size) (e:=56) (size:=5) (w.alloc (.cells #[.string o,.slice va ps.length vc] 33)) #[] 0 bb.size (by decide) rfl;rw [World.size_alloc] at o0;have b1:=bb.alloc bb.size (.cells #[] 56);have hzr:=specZoneRecords_any o _ ps _ (h.below b1) hs hl;have r0:=fun i=>blk_cell kb i
 generalize zoneRecs ps=xs at*;go_enter Tryz.func51,Tryz.ntmps51;go_wp2_with (go_at_call 47;refine hzr.mono ?_;rintro e w1 ⟨u,rfl,hou,hb1⟩)
 have o1:=own_below o0 hb1;have bw1:=Nm.below_two b1 hb1;have z1:=bw1.size;obtain⟨ba,bc,rfl⟩:=own_sl hou
 go_loopw [3,5] (fun vo i wr=>∃ (j:Nat),j<=xs.length∧i=.int .i64 (j:Int)∧wr.ownsRow w.heap.size 56 5 vo (restR (xs.take j)).length (rvVs (restR (xs.take j)))∧wr.ownsRow (w.heap.size+2) 56 5 (.slice ba xs.length bc) xs.length (rvVs xs)∧(∀ g,vo.ownBlock=some g->(Value.slice ba xs.length bc).ownBlock≠some g)∧Below w.heap.size w wr) (fun _ i _=>xs.length-(intOf i).toNat)
 case atStart=>
  refine⟨0,Nat.zero_le _,rfl,o1,by simpa using hou,fun g hg e=>?_,bw1⟩;have h2:=(hou.lt g e).1;simp [Value.ownBlock] at hg
  simp at h2;omega
 case round=>
  obtain⟨j,hj,rfl,oO,oY,hap,hbel⟩:=hrel;clear o0 o1 hzr r0 kb hou b1 bb hb1;have hwl:=rest_len xs j;have hBw:=hbel.size
  by_cases hlt:j<xs.length
  ·obtain⟨x,hx⟩:∃ x,xs[j]? =some x:=⟨_,List.getElem?_eq_getElem hlt⟩;obtain⟨_,ya,yc,hyv,hycap,hymx,hyc⟩:=CRow.of_owns oY;simp only [Value.slice.injEq] at hyv;obtain⟨rfl,_,rfl⟩:=hyv;obtain⟨b,off,rfl,hcell⟩:=hyc (by omega);obtain⟨c0,c1,c2,c3,c4⟩:=rv_cells hcell hx;have i1:(0:Int)<=(j:Int):=by omega
   have i2:(j:Int)<(xs.length:Int):=by omega
   clear hcell hyc
   by_cases h6:x.ty=6
   ·have h6b:(x.ty != 6)=false:=by simp [h6]
    have HO:=Nm.hide oO;rw [<- rest_yes hx h6] at HO;have HP:=Nm.hide hap;clear oO hx h6 hap;go_wp2;go_roundw
    case rel=>exact⟨j+1,by omega,by go_num,HO.out,oY,HP.out,hbel⟩
    case measure=>simp [intOf];omega
   ·have h6b:(x.ty != 6)=true:=by simp [h6]
    have HE:=Nm.hide (rest_no hx h6);clear hx h6;obtain⟨oa,oc,rfl⟩:=own_sl oO;obtain⟨xo,ty,cl,tt,da⟩:=x;simp only at c0 c1 c2 c3 c4 h6b
    generalize restR (xs.take j)=WT at*;go_wp2_with (at_builtin;refine wpList_append_own_at _ rfl (.tmp 21) (.tmp 26) 28 rfl w.heap.size 56 i0 _ 5 56 Tryz.underlying28 hi hz0 hz1 hz2 rfl (by decide) (.slice oa WT.length oc) WT.length (rvVs WT) rfl (own_below oO ((Below.refl _ _).alloc (Nat.le_refl _) _)) ⟨wr.heap.size,0,none⟩ 1 1 [.string xo,.int .i64 ty,.int .i64 cl,.int .i64 tt,.string da] rfl rfl (cell_newV _ _ _) (by intro u hu;simp at hu;rcases hu with rfl|rfl|rfl|rfl|rfl<;>rfl) (by unfold maxLen;omega) (by omega) (by simp;omega) ?_;intro va9 wa ho9 hg9 hnl9 hat9)
    have o9:wa.ownsRow w.heap.size 56 5 va9 (WT++[(⟨xo,ty,cl,tt,da⟩:Rr)]).length (rvVs (WT++[(⟨xo,ty,cl,tt,da⟩:Rr)])):=by simpa [rvVs,rvV] using ho9
    rw [<- HE.out] at o9;have oY2:=own_below oY ((Below.refl _ _).alloc (Nat.le_refl _) (.cells #[.string xo,.int .i64 ty,.int .i64 cl,.int .i64 tt,.string da] 56))
    have oY3:wa.ownsRow (w.heap.size+2) 56 5 (.slice (some ⟨b,off,none⟩) xs.length bc) xs.length (rvVs xs):=by
     refine oY2.kept hg9 ?_
     cases hoa:(Value.slice oa WT.length oc).ownBlock with
     |none=>right;simp [Value.ownBlock]
     |some g=>right;exact hap g hoa
    have hlty:=(oY.lt b rfl).2
    have hap2:∀ g,va9.ownBlock=some g->(Value.slice (some ⟨b,off,none⟩) xs.length bc).ownBlock≠some g:=by
     intro g hg
     rcases hat9 with h9|h9
     ·exact hap g (by rw [<- h9];exact hg)
     ·rw [h9] at hg;simp only [Option.some.injEq,Value.ownBlock,ne_eq] at hg ⊢;simp at hg;omega
    have b4:Below w.heap.size w wa:=(hbel.alloc hBw _).grown hg9 (by simp;omega) (fun g hg=>(oO.lt g hg).1);clear hat9 hnl9 hg9 oY oY2 oO hap ho9 hlty;go_wp2;go_roundw
    case rel=>exact⟨j+1,by omega,by go_num,o9,oY3,hap2,b4⟩
    case measure=>simp [intOf];omega
  ·have hkl:j=xs.length:=by omega
   subst hkl;rw [List.take_length] at oO;clear oY hap;obtain⟨oa,oc,rfl⟩:=own_sl oO;go_wp2;go_ret;exact⟨_,rfl,oO,hbel⟩
set_option maxRecDepth 100000 in
set_option maxHeartbeats 1600000 in
theorem l10Serial_any(o:ByteArray)(v:Value)(ps:List Zp)(s:Sz)(d:ByteArray)(ds:List ByteArray)(w:World)(h:ZRow w v ps)(hl:ps.length<=1048576)(hf:∀ p∈ps,p.1.own.size<=1048576∧p.1.da.length<=1048576)(ho:o.size<=maxLen)(hs:fndZ (ps.map (·.1)) o 6=some s)(hd:s.da=d::ds)(hdz:d.size<=2000000):
 Calls Tryz.prog 53 #[.agg #[.string o,v]] w fun e w'=>e=.returned (.int .i64 (if cutCode 6 d=0 then serS d else 0))∧Below w.heap.size w w':=by
 obtain⟨va,vc,rfl⟩:∃ va vc,v=.slice va ps.length vc:=by obtain⟨⟨_,a,c,e,_⟩,_⟩:=h;exact⟨a,c,e⟩
 have b0:=(Below.refl w.heap.size w).alloc (Nat.le_refl _) (.cells #[.string o,.slice va ps.length vc] 33);have k0:=blk_new w #[.string o,.slice va ps.length vc] 33;have hfd:=l06Find_any o o 6 (.slice va ps.length vc) ps _ (h.below b0) hl hf ho;rw [hs] at hfd;have r0:=fun i=>blk_cell k0 i
 have hse:=fun W=>specSerial_any d W hdz
 generalize (if cutCode 6 d=0 then serS d else 0)=N at*;generalize (if cutCode 6 d=0 then(0:Int) else 7)=M at*;clear h hf hs;obtain⟨x,ty,tt,da⟩:=s;simp only at hd ⊢
 subst hd;go_enter Tryz.func53,Tryz.ntmps53;go_wp2_with fail
 refine hfd.mono ?_;rintro e w1 ⟨u,rfl,hou,hb1⟩;simp only [Option.getD_some,Option.isSome_some] at hou ⊢;obtain⟨ua,uc,eu⟩:=own_sl hou;subst eu;have bw1:=Nm.below_two b0 hb1;have b2:=(Below.refl w1.heap.size w1).alloc (Nat.le_refl _) (.cells #[.string x,.int .i64 ty,.int .i64 tt,.slice ua (d::ds).length uc] 90);have kB:=blk_new w1 #[.string x,.int .i64 ty,.int .i64 tt,.slice ua (d::ds).length uc] 90;have rB:=fun i=>blk_cell kB i
 have bw2:=Nm.hide (Nm.below_two bw1 b2);obtain⟨a9,c9,e9,-,-,-,hc9⟩:=(Nm.SRow.of_owns hou).below b2;simp only [Value.slice.injEq] at e9;obtain⟨rfl,_,rfl⟩:=e9;obtain⟨gb,go,rfl,hcell⟩:=hc9 (by simp);have d0:=hcell 0 d rfl;rw [Nat.add_zero] at d0;have hn0:(0:Int)<(((d::ds).length:Nat):Int):=by simp;try omega
 generalize (d::ds).length=RL at*;clear hfd k0 r0 b0 hb1 hou bw1 hcell hc9 kB b2;go_wp2_with (go_at_call 81;refine(hse _).mono ?_;rintro e w3 ⟨rfl,hb3⟩)
 go_ret;exact⟨rfl,Nm.below_two bw2.out hb3⟩
theorem soa_ok{ps:List Zp}{o:ByteArray}(hz:zOK ps o=true):∃ (s:Sz) (ds:List ByteArray),fndZ (ps.map (·.1)) o 6=some s∧s.da=(soaOf ps).da::ds∧rvA (soaOf ps)=.agg #[.string s.own,.int .i64 s.ty,.int .i64 1,.int .i64 s.tt,.string (soaOf ps).da]∧s∈ps.map (·.1):=by
 obtain⟨al,ha⟩:=name_ofZ hz;obtain⟨r,k,s,ds,f1,-,-,-,f2,f3,f4,-,f5⟩:=zOK_soaR hz ha;have e:soaOf ps=r:=by rw [soaOf,f1];rfl
 have a1:r.own=s.own:=congrArg Rr.own f4;have a2:r.ty=s.ty:=congrArg Rr.ty f4;have a3:r.cl=1:=congrArg Rr.cl f4;have a4:r.tt=s.tt:=congrArg Rr.tt f4;rw [e];refine⟨s,ds,f2,f3,?_,f5⟩;show Value.agg #[.string r.own,.int .i64 r.ty,.int .i64 r.cl,.int .i64 r.tt,.string r.da]=_
 rw [a1,a2,a3,a4]
def FitZ(ps:List Zp):Prop:=∀ p∈ps,p.1.own.size<=1048576∧p.1.da.length<=1048576∧∀ x∈p.1.da,x.size<=1048576
theorem l11Soa_ok(o:ByteArray)(v:Value)(ps:List Zp)(w:World)(h:ZRow w v ps)(hl:ps.length<=1048576)(hF:FitZ ps)(ho:o.size<=maxLen)(hz:zOK ps o=true):
 Calls Tryz.prog 49 #[.agg #[.string o,v]] w fun e w'=>e=.returned (rvA (soaOf ps))∧Below w.heap.size w w':=by
 obtain⟨s,ds,f1,f2,f3,f4⟩:=soa_ok hz;obtain⟨p,hp,ep⟩:=List.mem_map.1 f4;rw [f3];exact l11Soa_any o v ps s _ ds w h hl (fun p hp=>⟨(hF p hp).1,(hF p hp).2.1⟩) ho f1 f2 (by rw [<- ep];exact(hF p hp).2.1)
theorem l10Serial_ok(o:ByteArray)(v:Value)(ps:List Zp)(w:World)(h:ZRow w v ps)(hl:ps.length<=1048576)(hF:FitZ ps)(ho:o.size<=maxLen)(hz:zOK ps o=true):
 Calls Tryz.prog 53 #[.agg #[.string o,v]] w fun e w'=>e=.returned (.int .i64 (sdS (soaOf ps)))∧Below w.heap.size w w':=by
 obtain⟨s,ds,f1,f2,f3,f4⟩:=soa_ok hz;obtain⟨p,hp,ep⟩:=List.mem_map.1 f4;exact l10Serial_any o v ps s _ ds w h hl (fun p hp=>⟨(hF p hp).1,(hF p hp).2.1⟩) ho f1 f2 (by have:=(hF p hp).2.2 (soaOf ps).da (by rw [ep,f2];simp);omega)
def toR(ps:List Zp)(o:ByteArray)(cs:List Cg)(qt s:Int):List Rr×Int:=
 if(zOK ps o&&serIn s&&hisB (soaOf ps) cs)=true then if qt=252∨qt=251 then(outT (soaOf ps) (restR (zoneRecs ps)) cs qt s,0) else([],6) else([],32)
theorem his_len{soa:Rr}{cs:List Cg}(h:hisB soa cs=true):cs.length<=40∧∀ c∈cs,c.del.length<=500∧c.add.length<=500:=by
 rw [hisB,Bool.and_eq_true,hgB,Bool.and_eq_true,decide_eq_true_eq,Bool.not_eq_true'] at h;refine⟨h.1.1,fun c hc=>?_⟩;have h2:=List.any_eq_false.1 h.2 c hc;rw [lgB] at h2;simp at h2;exact h2
theorem cgR_len(c:Cg):(cgR c).length=c.del.length+c.add.length+2:=by
 simp [cgR]
 omega
theorem cgRs_len:∀ cs:List Cg,(∀ c∈cs,c.del.length<=500∧c.add.length<=500)->(cs.flatMap cgR).length<=cs.length*1002:=by
 intro cs
 induction cs with
 |nil=>intro _;simp
 |cons c cs ih=>
  intro h;have h1:=h c (List.mem_cons_self ..);have h2:=ih fun d hd=>h d (List.mem_cons_of_mem _ hd)
  rw [List.flatMap_cons,List.length_append,cgR_len,List.length_cons];omega
theorem toR_len(ps:List Zp)(o:ByteArray)(cs:List Cg)(qt s:Int):(toR ps o cs qt s).1.length<=41000:=by
 rw [toR];split
 ·rename_i h;rw [Bool.and_eq_true,Bool.and_eq_true] at h;obtain⟨⟨hz,-⟩,hh⟩:=h;obtain⟨h1,h2⟩:=his_len hh;split
  ·have hr:(restR (zoneRecs ps)).length<=500:=by
    refine Nat.le_trans (List.length_filter_le _ _) ?_;rw [zoneRecs];split
    ·simp
    ·rename_i hn
     have:(recsAll ps).length=dsum ps:=by
      clear hn h1 h2 hh hz
      induction ps with
      |nil=>rfl
      |cons p ps ih=>rw [recsAll,List.flatMap_cons,List.length_append,<- recsAll,ih,recsOf_len,dsum]
     omega
   show(outT _ _ _ _ _).length<=41000
   rw [outT];split
   ·simp;omega
   ·split
    ·simp
    ·split
     ·rename_i i hi;have h3:=cgRs_len (cs.drop i) fun c hc=>h2 c (List.mem_of_mem_drop hc)
      have h4:(cs.drop i).length<=40:=by simp;omega
      simp only [List.length_append,List.length_cons,List.length_nil];omega
     ·simp;omega
  ·simp
 ·simp
theorem toR_same{ps qs:List Zp}{o:ByteArray}{cs:List Cg}{qt s:Int}(hz:zOK qs o=zOK ps o)(hr:zoneRecs qs=zoneRecs ps):toR qs o cs qt s=toR ps o cs qt s:=by
 have e:soaOf qs=soaOf ps:=by rw [soaOf,soaOf,hr]
 rw [toR,toR,hz,hr,e]
theorem flat_take{cs:List Cg}{j:Nat}{c:Cg}(h:cs[j]? =some c):(cs.take (j+1)).flatMap cgR=(cs.take j).flatMap cgR++cgR c:=by
 rw [List.take_add_one,h,List.flatMap_append];simp
theorem flat_tle{cs:List Cg}(hc:∀ c∈cs,c.del.length<=500∧c.add.length<=500)(hl:cs.length<=40)(j:Nat):((cs.take j).flatMap cgR).length<=41000:=by
 have h1:=cgRs_len (cs.take j) (fun c h=>hc c (List.mem_of_mem_take h));have h2:=List.length_take_le' j cs;omega
set_option maxRecDepth 100000 in
set_option maxHeartbeats 1600000 in
theorem eqChange_any(a b:Rr)(d e d' e':Value)(xs ys:List Rr)(w:World)(h1:CRow w d xs.length 5 (rvVs xs))(h2:CRow w e ys.length 5 (rvVs ys))(h3:CRow w d' xs.length 5 (rvVs xs))(h4:CRow w e' ys.length 5 (rvVs ys)):
 Calls Tryz.prog 39 #[cgV a b d e,cgV a b d' e'] w fun e w'=>e=.returned (.bool true)∧Below w.heap.size w w':=by
 have hrr:=fun(r:Rr) W=>eqRV_any r.own r.da r.ty r.cl r.tt W
 have hx:=fun W (hW:Below w.heap.size w W)=>eqRVS_any d d' xs W (h1.below hW) (h3.below hW)
 have hy:=fun W (hW:Below w.heap.size w W)=>eqRVS_any e e' ys W (h2.below hW) (h4.below hW)
 obtain⟨_,da,dc,rfl,-,-,-⟩:=h1;obtain⟨_,ea,ec,rfl,-,-,-⟩:=h2;obtain⟨_,da',dc',rfl,-,-,-⟩:=h3;obtain⟨_,ea',ec',rfl,-,-,-⟩:=h4;have b1:=(Below.refl w.heap.size w).alloc (Nat.le_refl _) (.cells (cgL a b (.slice da xs.length dc) (.slice ea ys.length ec)).toArray 58);have b2:=b1.alloc b1.size (.cells (cgL a b (.slice da' xs.length dc') (.slice ea' ys.length ec')).toArray 58);have k1:=blk_alloc (blk_new w (cgL a b (.slice da xs.length dc) (.slice ea ys.length ec)).toArray 58) (.cells (cgL a b (.slice da' xs.length dc') (.slice ea' ys.length ec')).toArray 58);have k2:=blk_new (w.alloc (.cells (cgL a b (.slice da xs.length dc) (.slice ea ys.length ec)).toArray 58)) (cgL a b (.slice da' xs.length dc') (.slice ea' ys.length ec')).toArray 58;rw [World.size_alloc] at k2;have r1:=fun i=>blk_cell k1 i
 have r2:=fun i=>blk_cell k2 i
 clear b1;go_enter Tryz.func39,Tryz.ntmps39;go_wp2_with fail
 refine(hrr a _).mono ?_;rintro e w1 ⟨rfl,c1⟩;have bw1:=Nm.below_two b2 c1;have k11:=blk_below k1 c1;have k21:=blk_below k2 c1;clear r1 r2 k1 k2 c1 b2;have r1:=fun i=>blk_cell k11 i
 have r2:=fun i=>blk_cell k21 i
 go_wp2_with fail
 refine(hrr b _).mono ?_;rintro e w2 ⟨rfl,c2⟩;have bw2:=Nm.below_two bw1 c2;have k12:=blk_below k11 c2;have k22:=blk_below k21 c2;clear r1 r2 k11 k21 c2 bw1;have r1:=fun i=>blk_cell k12 i
 have r2:=fun i=>blk_cell k22 i
 go_wp2_with fail
 refine(hx _ bw2).mono ?_;rintro e w3 ⟨rfl,c3⟩;have bw3:=Nm.below_two bw2 c3;have k13:=blk_below k12 c3;have k23:=blk_below k22 c3;clear r1 r2 k12 k22 c3 bw2;have r1:=fun i=>blk_cell k13 i
 have r2:=fun i=>blk_cell k23 i
 go_wp2_with fail
 refine(hy _ bw3).mono ?_;rintro e w4 ⟨rfl,c4⟩;have bw4:=Nm.below_two bw3 c4;clear r1 r2;go_wp2;go_ret;exact⟨rfl,bw4⟩
theorem own_grownC{W W1:World}{B e s m:Nat}{v u:Value}{xs:List Value}(h:W.ownsRow B e s v m xs)(hg:W.grownBy W1 u.ownBlock)(ha:∀ g,u.ownBlock=some g->v.ownBlock≠some g):W1.ownsRow B e s v m xs:=by
 refine h.kept hg ?_
 cases hu:u.ownBlock with
 |none=>
  cases hv:v.ownBlock with
  |none=>exact .inl rfl
  |some k=>right;simp
 |some k=>right;exact ha k hu
end Go.Proofs.YtgilkakllagbnaaGreat
