import Derived.Test.YtfmolgdfjklmpaaGreatJCzM
import Derived.Test.YtfmolgdfjklmpaaGreatJBzC
import Derived.Test.YtfmolgdfjklmpaaGreatJBzT
import Derived.Test.YtfmolgdfjklmpaaGreatJDrH
import Derived.Test.YtfmolgdfjklmpaaGreatJFnT
import Derived.Test.YtfmolgdfjklmpaaGreatJSCheck
import Derived.Test.YtfmolgdfjklmpaaGreatJSls
import Derived.Test.YtfmolgdfjklmpaaGreatJFnS
namespace Go.Proofs.YtfmolgdfjklmpaaGreat
open Go.RowKit
set_option linter.unusedVariables false
def keyK(srt:List It):Nat->List (ByteArray×Int)
 |0=>[]
 |k+1=>match srt[k]? with
  |some x=>if newSet srt k x then keyK srt k++[(x.fo,x.r.ty)] else keyK srt k
  |none=>keyK srt k
theorem grp_key(l srt:List It):∀ (k:Nat),k<=srt.length->(grpK l srt k).map (fun s=>(s.own,s.ty))=(keyK srt k).map fun q=>(ownI l q.1,q.2):=by
 intro k
 induction k with
 |zero=>intro _;rfl
 |succ k ih=>
  intro hk;have ih':=ih (by omega);obtain⟨x,hx⟩:∃ x,srt[k]? =some x:=⟨_,List.getElem?_eq_getElem (by omega)⟩
  cases hn:newSet srt k x with
  |true=>
   rw [grpK_new hx hn,keyK,hx]
   simp [hn,ih']
  |false=>
   have hk0:0<k:=by
    rcases Nat.eq_zero_or_pos k with h|h
    ·subst h;simp [newSet] at hn
    ·exact h
   obtain⟨qs,s,e⟩:=grpK_last (l:=l) (srt:=srt) k hk0 (by omega);rw [grpK_old hx hn e,keyK,hx];rw [e] at ih';simpa [hn] using ih'
theorem key_mem{srt:List It}:∀ {k:Nat} {q:ByteArray×Int},q∈keyK srt k->∃ j y,j<k∧srt[j]? =some y∧q=(y.fo,y.r.ty):=by
 intro k
 induction k with
 |zero=>intro q h;simp [keyK] at h
 |succ k ih=>
  intro q h
  have old:q∈keyK srt k->∃ j y,j<k+1∧srt[j]? =some y∧q=(y.fo,y.r.ty):=fun h=>by
   obtain⟨j,y,h1,h2,h3⟩:=ih h;exact⟨j,y,by omega,h2,h3⟩
  rw [keyK] at h
  cases hx:srt[k]? with
  |none=>rw [hx] at h;exact old h
  |some x=>
   rw [hx] at h;simp only at h
   split at h
   ·rcases List.mem_append.1 h with h|h
    ·exact old h
    ·simp at h;exact⟨k,x,by omega,hx,h⟩
   ·exact old h
theorem bf_mid{a b c:It}(h1:Bf a b)(h2:Bf b c)(hf:a.fo=c.fo)(ht:a.r.ty=c.r.ty):b.fo=c.fo∧b.r.ty=c.r.ty:=by
 rw [bf_iff] at h1 h2
 have n1:¬Nm.cmpS a.fo b.fo<0:=by
  intro h
  rcases h2 with⟨e,_⟩|⟨e,_⟩|h3
  ·rw [e,hf,cmpS_self] at h;omega
  ·rw [e,hf,cmpS_self] at h;omega
  ·have:=cmpS_trans h h3;rw [hf,cmpS_self] at this;omega
 have e1:a.fo=b.fo:=by
  rcases h1 with⟨e,_⟩|⟨e,_⟩|h
  ·exact e
  ·exact e
  ·exact absurd h n1
 have e2:b.fo=c.fo:=by rw [<- e1,hf]
 have n2:¬Nm.cmpS b.fo c.fo<0:=by rw [e2,cmpS_self];omega
 have t1:a.r.ty<=b.r.ty:=by
  rcases h1 with⟨_,e,_⟩|⟨_,e⟩|h
  ·omega
  ·omega
  ·exact absurd h n1
 have t2:b.r.ty<=c.r.ty:=by
  rcases h2 with⟨_,e,_⟩|⟨_,e⟩|h
  ·omega
  ·omega
  ·exact absurd h n2
 exact⟨e2,by omega⟩
theorem key_nd{srt:List It}(hpw:srt.Pairwise Bf):∀ (k:Nat),k<=srt.length->(keyK srt k).Nodup:=by
 intro k
 induction k with
 |zero=>intro _;exact List.nodup_nil
 |succ k ih=>
  intro hk;have ih':=ih (by omega);obtain⟨x,hx⟩:∃ x,srt[k]? =some x:=⟨_,List.getElem?_eq_getElem (by omega)⟩;have hxe:=(List.getElem?_eq_some_iff.1 hx).2;rw [keyK,hx];simp only
  split
  ·rename_i hn;rw [List.nodup_append];refine⟨ih',by simp,fun q hq q' hq' e=>?_⟩;simp at hq';subst hq';obtain⟨j,y,h1,h2,h3⟩:=key_mem hq;rw [e] at h3;obtain⟨e1,e2⟩:=Prod.mk.inj h3;have hye:=(List.getElem?_eq_some_iff.1 h2).2;have hk0:0<k:=by omega
   obtain⟨z,hz⟩:∃ z,srt[k-1]? =some z:=⟨_,List.getElem?_eq_getElem (by omega)⟩;have hze:=(List.getElem?_eq_some_iff.1 hz).2
   have hzx:¬(z.fo=x.fo∧z.r.ty=x.r.ty):=by
    intro hh;obtain⟨m,rfl⟩:∃ m,k=m+1:=⟨k-1,by omega⟩;rw [Nat.add_sub_cancel] at hz;simp [newSet,hz,hh.1,hh.2] at hn
   rcases Nat.lt_or_eq_of_le (show j<=k-1 by omega) with h|h
   ·have p1:=List.pairwise_iff_getElem.1 hpw j (k-1) (by omega) (by omega) h;have p2:=List.pairwise_iff_getElem.1 hpw (k-1) k (by omega) (by omega) (by omega);rw [hye,hze] at p1;rw [hze,hxe] at p2;exact hzx (bf_mid p1 p2 e1.symm e2.symm)
   ·subst h;rw [h2] at hz;obtain rfl:=Option.some.inj hz;exact hzx ⟨e1.symm,e2.symm⟩
  ·exact ih'
theorem bad_noneK{apex:ByteArray}:∀ (l:List Rr) (i:Nat),badOne apex l i=none->∀ r∈l,oneC r apex=0
 |[],i,_,r,hr=>by simp at hr
 |x::l,i,h,r,hr=>by
  rw [badOne] at h
  split at h
  ·rename_i h0
   rcases List.mem_cons.1 hr with rfl|hr
   ·exact h0
   ·exact bad_noneK l (i+1) h r hr
  ·cases h
theorem zero_one{list:List Rr}{apex:ByteArray}(h:(bldE list apex).1=0):∀ r∈list,oneC r apex=0:=by
 rw [bldE] at h
 split at h
 ·exact absurd h (by simp)
 ·split at h
  ·exact absurd h (by simp)
  ·cases hb:badOne apex list 0 with
   |none=>exact bad_noneK _ _ hb
   |some c=>
    exfalso
    rw [hb] at h
    have nz:∀ (l:List Rr) (i:Nat) (c:Int) (j:Nat),badOne apex l i=some (c,j)->c≠0:=by
     intro l
     induction l with
     |nil=>intro i c j h;simp [badOne] at h
     |cons x l ih=>
      intro i c j h;rw [badOne] at h
      split at h
      ·exact ih _ _ _ h
      ·rename_i hn;simp at h;rw [<- h.1];exact hn
    exact nz _ _ c.1 c.2 hb h
theorem one_split{r:Rr}{apex:ByteArray}(h:oneC r apex=0):(Nm.split r.own).isSome=true:=by
 rw [oneC] at h
 split at h
 ·exact absurd h (by simp)
 ·rename_i hn
  cases hh:(Nm.split r.own).isSome with
  |true=>rfl
  |false=>exact absurd hh hn
theorem ownI_fo{l:List It}(hg:∀ x∈l,x.fo=Nm.foldS x.r.own){x:It}(h:x∈l):∃ y∈l,ownI l x.fo=y.r.own∧y.fo=x.fo:=by
 rw [ownI]
 cases e:l.find? (fun y=>decide (y.fo=x.fo)) with
 |some y=>
  have h2:=List.find?_some e;simp at h2
  exact⟨y,List.mem_of_find?_eq_some e,rfl,h2⟩
 |none=>
  have:=List.find?_eq_none.1 e x h;simp at this
theorem zOK_key{ps:List Zp}{o:ByteArray}(hz:zOK ps o=true){i j:Nat}{p q:Zp}(hi:ps[i]? =some p)(hj:ps[j]? =some q)(ht:p.1.ty=q.1.ty)(hs:sameS p.1.own q.1.own=true):i=j:=by
 obtain⟨hc,hb⟩:=zOK_recs hz;have h1:=zero_one hc
 have hgood:∀ y∈(zoneRecs ps).map itemOf,GoodI y:=by
  intro y hy;obtain⟨r,hr,rfl⟩:=List.mem_map.1 hy;exact good_item (one_split (h1 r hr))
 have hpw:(srtOf (zoneRecs ps)).Pairwise Bf:=by
  rw [srtOf,sortI];exact sortF_pw _ _ (by omega) (rest_pw hgood)
 have hnd:=key_nd hpw _ (Nat.le_refl _);have hk:=grp_key (itsOf (zoneRecs ps)) (srtOf (zoneRecs ps)) _ (Nat.le_refl _);rw [show grpK (itsOf (zoneRecs ps)) (srtOf (zoneRecs ps)) (srtOf (zoneRecs ps)).length=ps.map (·.1) from hb] at hk
 have hfo:∀ x∈itsOf (zoneRecs ps),x.fo=Nm.foldS x.r.own∧(Nm.split x.r.own).isSome=true:=by
  intro x hx;obtain⟨m,hm⟩:=List.getElem?_of_mem hx
  cases hr:(zoneRecs ps)[m]? with
  |none=>
   have h3:=(List.getElem?_eq_some_iff.1 hm).1;rw [List.getElem?_eq_none_iff] at hr;simp [itsOf,twI] at h3
   omega
  |some r=>
   have h3:(itsOf (zoneRecs ps))[m]? =some (outI (dupI (((zoneRecs ps).map itemOf).take m) (itemOf r)) (itemOf r)):=by
    rw [itsOf,twI,List.getElem?_mapIdx,List.getElem?_map,hr];rfl
   rw [hm] at h3;obtain rfl:=Option.some.inj h3;exact⟨rfl,one_split (h1 r (List.mem_of_getElem? hr))⟩
 have key:∀ (m:Nat) (z:Zp),ps[m]? =some z->∃ x∈itsOf (zoneRecs ps),(keyK (srtOf (zoneRecs ps)) (srtOf (zoneRecs ps)).length)[m]? =some (x.fo,z.1.ty)∧∃ y∈itsOf (zoneRecs ps),z.1.own=y.r.own∧y.fo=x.fo:=by
  intro m z hm;have h4:=congrArg (fun l=>l[m]?) hk;simp only [List.getElem?_map,hm,Option.map_some] at h4
  cases hq:(keyK (srtOf (zoneRecs ps)) (srtOf (zoneRecs ps)).length)[m]? with
  |none=>rw [hq] at h4;cases h4
  |some k=>
   rw [hq] at h4;simp only [Option.map_some,Option.some.injEq,Prod.mk.injEq] at h4;obtain⟨n,x,_,h5,h6⟩:=key_mem (List.mem_of_getElem? hq)
   have hx:x∈itsOf (zoneRecs ps):=by
    have:=List.mem_of_getElem? h5;rw [srtOf,sortI] at this;exact(List.mem_filter.1 (sortF_mem.1 this)).1
   obtain⟨y,hy,e1,e2⟩:=ownI_fo (fun x hx=>(hfo x hx).1) hx;subst h6;refine⟨x,hx,by rw [h4.2],y,hy,?_,e2⟩;rw [h4.1];exact e1
 obtain⟨x,hx,kx,y,hy,ey,fy⟩:=key i p hi;obtain⟨x',hx',kx',y',hy',ey',fy'⟩:=key j q hj
 have hff:x.fo=x'.fo:=by
  rw [<- fy,<- fy',(hfo y hy).1,(hfo y' hy').1,<- ey,<- ey'];obtain⟨la,hla⟩:=Option.isSome_iff_exists.1 (hfo y hy).2;obtain⟨lb,hlb⟩:=Option.isSome_iff_exists.1 (hfo y' hy').2;rw [<- ey] at hla;rw [<- ey'] at hlb;rw [same_cmp hla hlb,decide_eq_true_eq] at hs;exact(fold_lab hla hlb).2 hs
 rw [hff,ht] at kx;exact(List.getElem?_inj (List.getElem?_eq_some_iff.1 kx).1 hnd).1 (kx.trans kx'.symm)
def cntS(ss:List Sz):Nat:=(ss.map fun s=>s.da.length).sum
theorem cnt_app(a b:List Sz):cntS (a++b)=cntS a+cntS b:=by simp [cntS]
theorem grp_cnt(l srt:List It):∀ k,k<=srt.length->cntS (grpK l srt k)=k:=by
 intro k
 induction k with
 |zero=>intro _;rfl
 |succ k ih=>
  intro hk;have ihk:=ih (by omega);rw [grpK,List.getElem?_eq_getElem (by omega)];simp only
  split
  ·rw [cnt_app,ihk];rfl
  ·rename_i hn;rw [addLast]
   cases hl:(grpK l srt k).getLast? with
   |none=>
    rw [List.getLast?_eq_none_iff] at hl;rw [hl] at ihk;have k0:k=0:=ihk.symm;subst k0
    exact absurd rfl hn
   |some s=>
    obtain⟨pre,e⟩:∃ pre,grpK l srt k=pre++[s]:=by
     obtain⟨pre,e⟩:=List.getLast?_eq_some_iff.1 hl;exact⟨pre,e⟩
    rw [e] at ihk ⊢;simp only [List.dropLast_concat];rw [cnt_app] at ihk ⊢;simp only [cntS,List.map_cons,List.map_nil,List.sum_cons,List.sum_nil,List.length_append,List.length_cons,List.length_nil] at ihk ⊢;omega
theorem its_len(xs:List Rr):(itsOf xs).length=xs.length:=by simp [itsOf,twI]
theorem zOK_small{ps:List Zp}{o:ByteArray}(hz:zOK ps o=true):zoneRecs ps=recsAll ps:=by
 rw [zoneRecs,if_neg];intro h;rw [zOK_big h] at hz;cases hz
theorem its_at{xs:List Rr}{i:Nat}{x:Rr}(h:xs[i]? =some x):(itsOf xs)[i]? =some (outI (dupI ((xs.map itemOf).take i) (itemOf x)) (itemOf x)):=by
 rw [itsOf,twI,List.getElem?_mapIdx,List.getElem?_map,h];rfl
theorem typZ_next{ps:List Zp}{name:ByteArray}{j:Nat}{q:Zp}(hq:ps[j]? =some q):typZ ((ps.take (j+1)).map (·.1)) name=typZ ((ps.take j).map (·.1)) name++(if sameS q.1.own name=true then [q.1.ty] else []):=by
 rw [Nm.take_step hq,List.map_append,typZ,typZ,List.filter_append,List.map_append];congr 1;simp only [List.map_cons,List.map_nil,List.filter_cons,List.filter_nil]
 split<;>rfl
theorem typZ_len(l:List Sz)(name:ByteArray):(typZ l name).length<=l.length:=by
 rw [typZ,List.length_map];exact List.length_filter_le _ _
theorem typ_bel{W wr w1:World}{v:Value}{B e n:Nat}{l:List Value}(hB:B<=wr.heap.size)
 (hown:wr.ownsRow B e 1 v n l) (hbel:Below B W wr) (o:Obj) (hgrow:(wr.alloc o).grownBy w1 v.ownBlock):Below B W w1:=by
 refine(hbel.alloc hB o).grown hgrow (by simp;omega) ?_;intro k hk;exact(hown.lt k hk).1
set_option maxRecDepth 100000 in
set_option maxHeartbeats 1600000 in
theorem l06Types_any(o name:ByteArray)(v:Value)(ps:List Zp)(w:World)(h:ZRow w v ps)(hl:ps.length<=1048576)(hf:∀ p∈ps,p.1.own.size<=1048576)(hn:name.size<=maxLen):
 Calls Tryz.prog 51 #[.agg #[.string o,v],.string name] w fun e w'=>∃ u,e=.returned u∧w'.ownsRow w.heap.size 2 1 u (typZ (ps.map (·.1)) name).length (intCells (typZ (ps.map (·.1)) name))∧Below w.heap.size w w':=by
 obtain⟨va,vc,rfl⟩:∃ va vc,v=.slice va ps.length vc:=by obtain⟨⟨_,a,c,e,_⟩,_⟩:=h;exact⟨a,c,e⟩
 obtain⟨i0,hi,hz0,hz1,hz2⟩:=info_parts infoI64K;have b0:=(Below.refl w.heap.size w).alloc (Nat.le_refl _) (.cells #[.string o,.slice va ps.length vc] 25);have k0:=blk_new w #[.string o,.slice va ps.length vc] 25;have HSm:=Nm.hide (fun(x:ByteArray) (hx:x.size<=1048576) W=>specSameName_any x name W (by unfold maxLen;omega) hn);have HZ:=Nm.hide (fun W (hW:Below w.heap.size w W)=>h.below hW);have HF:=Nm.hide hf;have HG:Hid (∀ W,Below w.heap.size w W->w.heap.size<=W.heap.size):=fun W hW=>hW.size
 have o0:=World.ownsRow_made (base:=w.heap.size) (e:=2) (size:=1) (w.alloc (.cells #[.string o,.slice va ps.length vc] 25)) #[] 0 b0.size (by decide) rfl;rw [World.size_alloc] at o0;have b1:=b0.alloc b0.size (.cells #[] 2);have k1:=blk_alloc k0 (.cells #[] 2);obtain⟨R,hR⟩:∃ R,R=typZ (ps.map (·.1)) name:=⟨_,rfl⟩;rw [<- hR];have HR:=Nm.hide hR;clear h hf hR b0 k0;go_enter Tryz.func51,Tryz.ntmps51;go_wp2;generalize hgg:w.heap.size=g at*;have HGG:=Nm.hide hgg;clear hgg
 go_loopw [5,6] (fun v i wr=>∃ (j m:Nat) (l:List Int),j<=ps.length∧i=.int .i64 j∧m<=j∧Hid (l.length=m)∧Hid (l=typZ ((ps.take j).map (·.1)) name)∧wr.ownsRow g 2 1 v m (intCells l)∧Below g w wr∧Blk wr g #[.string o,.slice va ps.length vc] 25) (fun _ i _=>ps.length-(intOf i).toNat)
 case atStart=>exact⟨0,0,[],Nat.zero_le _,rfl,Nat.le_refl _,rfl,rfl,o0,b1,k1⟩
 case round=>
  clear b1 k1 o0;obtain⟨j,m,l,hj,rfl,hm,HL,HT,hown,hb,kz⟩:=hrel;have rz:=fun i=>blk_cell kz i
  have hgw:=HG.out _ hb;obtain⟨oa,oc,rfl⟩:=own_sl hown
  by_cases hlt:j<ps.length
  ·obtain⟨q,hq⟩:∃ q,ps[j]? =some q:=⟨_,List.getElem?_eq_getElem hlt⟩;obtain⟨⟨_,a9,c9,e9,_,_,hc9⟩,hd9⟩:=HZ.out _ hb;simp only [Value.slice.injEq] at e9;obtain⟨rfl,_,rfl⟩:=e9;obtain⟨b,off,rfl,hcell⟩:=hc9 (by omega);obtain⟨d0,d1,d2,d3⟩:=zp_cells hcell hq;have hsm:=HSm.out q.1.own (HF.out q (List.mem_of_getElem? hq)) wr;have n1:(0:Int)<=(j:Int):=by omega
   have n2:(j:Int)<(ps.length:Int):=by omega
   have HNX:Hid (typZ ((ps.take (j+1)).map (·.1)) name=l++(if sameS q.1.own name=true then [q.1.ty] else [])):=by show _=_;rw [typZ_next hq,HT.out]
   clear hc9 hd9 hcell hq d2 d3;obtain⟨⟨x,ty,tt,ds⟩,u⟩:=q;simp only at d0 d1 hsm HNX
   cases hsb:sameS x name with
   |true=>
    rw [hsb] at hsm HNX;simp only [if_true] at HNX;have HCC:Hid (intCells l++[.int .i64 ty]=intCells (l++[ty])):=by show _=_;simp [intCells]
    have HL2:Hid ((l++[ty]).length=m+1):=by show _=_;rw [List.length_append,HL.out];rfl
    clear hsb HT;go_wp2_with fail
    refine hsm.mono ?_;rintro e w1 ⟨rfl,b1⟩;have kz1:=blk_below kz b1;have rz1:=fun i=>blk_cell kz1 i
    have up:=fun {O:Nat} {z:Value} (hz:wr.cell? ⟨b,O,none⟩=some z)=>(b1.cell (World.block_lt_of_cell? wr _ hz)).trans hz
    have f1:=up d1;have hown1:=own_below hown b1;have bw1:=hb.trans (b1.mono hgw);have hgw1:=HG.out _ bw1;clear up d0 d1 rz kz hb hown hsm b1;go_wp2_with (at_builtin;refine wpList_append_own _ rfl (.tmp 23) (.tmp 30) 36 rfl g 2 i0 (.int .i64 0) 1 8 Tryz.underlying36 hi hz0 hz1 hz2 rfl (by decide) _ _ _ rfl (hown1.alloc _) ⟨w1.heap.size,0,none⟩ 1 1 [.int .i64 ty] rfl rfl (cell_new1 _ _ _) (Nm.one_cell _ rfl) (by unfold maxLen;omega) (by omega) (by simp;omega) ?_)
    intro v' w6 hown6 hgrow _;rw [HCC.out] at hown6;have hb6:=typ_bel hgw1 hown1 bw1 _ hgrow;have kz6:=blk_grown (blk_alloc kz1 _) hgrow (own_nb hown1 kz1 (by decide));clear hgrow hown1 kz1 rz1 bw1;go_wp2;go_roundw
    case rel=>exact⟨j+1,m+1,_,hlt,by go_num,by omega,HL2,HNX.out.symm,hown6,hb6,kz6⟩
    case measure=>simp [intOf];omega
   |false=>
    rw [hsb] at hsm HNX;have HT2:Hid (l=typZ ((ps.take (j+1)).map (·.1)) name):=by show _=_;rw [HNX.out];simp
    clear hsb HT HNX;go_wp2_with (go_at_call 15;refine hsm.mono ?_;rintro e w1 ⟨rfl,b1⟩)
    go_roundw
    case rel=>exact⟨j+1,m,l,hlt,by go_num,by omega,HL,HT2,own_below hown b1,hb.trans (b1.mono hgw),blk_below kz b1⟩
    case measure=>simp [intOf];omega
  ·obtain rfl:j=ps.length:=by omega
   have i9:(ps.length:Int)<=(ps.length:Int):=by omega
   have HE:Hid (l=R):=by show _=_;rw [HR.out,HT.out,List.take_length]
   go_wp2;go_ret;rw [HGG.out];refine⟨_,rfl,?_,hb⟩;rw [<- HE.out,HL.out];exact hown
end Go.Proofs.YtfmolgdfjklmpaaGreat
