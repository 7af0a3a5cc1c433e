import Derived.Test.YtaceiajcecaapaaGreatJBzD
import Derived.Test.YtaceiajcecaapaaGreatJCRow
import Derived.Test.YtaceiajcecaapaaGreatJFsM
import Derived.Test.YtaceiajcecaapaaGreatJBzZ
import Derived.Test.YtaceiajcecaapaaGreatJBzA
import Derived.Test.YtaceiajcecaapaaGreatJZbA
import Derived.Test.YtaceiajcecaapaaGreatJTrH
import Derived.Test.YtaceiajcecaapaaGreatJFoldN
import Derived.Test.YtaceiajcecaapaaGreatJRrM
import Derived.Test.YtaceiajcecaapaaGreatJBzC
namespace Go.Proofs.YtaceiajcecaapaaGreat
open Go.RowKit
set_option linter.unusedVariables false
def typZ(ss:List Sz)(name:ByteArray):List Int:=(ss.filter fun s=>sameS s.own name).map (·.ty)
def tyT(os:List GOw)(lab:List ByteArray):List Int:=if isIn (oCmp lab) os=true then(match os[posOf (oCmp lab) os]? with|some q=>q.ss.map (·.ty)|none=>[]) else []
def hasN(ss:List Sz)(n:ByteArray):Bool:=decide (0<(typZ ss n).length)
def hasS(ss:List Sz)(n:ByteArray)(t:Int):Bool:=(fndZ ss n t).isSome
def cnC(ss:List Sz)(o:ByteArray)(r:Rr):Int:=
 if r.tt≠0 then 1
 else if isUnderS r.own o=false then 10
 else if r.cl=1 then(if ownB r.ty r.da=true then 0 else 1)
 else if(r.cl≠255∧r.cl≠254)∨r.da.size≠0 then 1
 else if r.cl=255 then(if r.ty=255 then(if hasN ss r.own=true then 0 else 3) else if hasS ss r.own r.ty=true then 0 else 8)
 else(if r.ty=255 then(if hasN ss r.own=true then 6 else 0) else if hasS ss r.own r.ty=true then 7 else 0)
def wtB(n:ByteArray)(t:Int)(r:Rr):Bool:=decide (r.cl=1)&&decide (r.ty=t)&&sameS r.own n
def wnt(xs:List Rr)(n:ByteArray)(t:Int):List ByteArray:=(xs.filter (wtB n t)).map fun r=>foldR t r.da
def seD(ss:List Sz)(n:ByteArray)(t:Int):List ByteArray:=((fndZ ss n t).getD sz0).da.map (foldR t)
def samB(a b:List ByteArray):Bool:=a.all (fun x=>b.any fun y=>y.data.toList==x.data.toList)&&b.all (fun x=>a.any fun y=>y.data.toList==x.data.toList)
def exB(ss:List Sz)(xs:List Rr)(n:ByteArray)(t:Int):Bool:=samB (wnt xs n t) (seD ss n t)
def bdB(ss:List Sz)(xs:List Rr)(r:Rr):Bool:=decide (r.cl=1)&& !exB ss xs r.own r.ty
def cnF(ss:List Sz)(o:ByteArray):List Rr->Option Int
 |[]=>none
 |r::rs=>if cnC ss o r=0 then cnF ss o rs else some (cnC ss o r)
def cnS(ss:List Sz)(o:ByteArray)(xs:List Rr):Int:=(cnF ss o xs).getD (if xs.any (bdB ss xs)=true then 8 else 0)
theorem cnF_none{ss:List Sz}{o:ByteArray}:∀ {xs:List Rr},(∀ r∈xs,cnC ss o r=0)->cnF ss o xs=none
 |[],_=>rfl
 |r::rs,h=>by
  rw [cnF,if_pos (h r (List.mem_cons_self ..))];exact cnF_none fun x hx=>h x (List.mem_cons_of_mem _ hx)
theorem cnF_at{ss:List Sz}{o:ByteArray}:∀ {xs:List Rr} {k:Nat} {r:Rr},(∀ j y,j<k->xs[j]? =some y->cnC ss o y=0)->xs[k]? =some r->cnC ss o r≠0->cnF ss o xs=some (cnC ss o r)
 |[],k,r,_,h,_=>by simp at h
 |x::xs,0,r,_,h,hn=>by
  simp at h;subst h
  rw [cnF,if_neg hn]
 |x::xs,k+1,r,h,hx,hn=>by
  rw [cnF,if_pos (h 0 x (by omega) rfl)];exact cnF_at (k:=k) (fun j y hj hy=>h (j+1) y (by omega) (by simpa using hy)) (by simpa using hx) hn
theorem ba_in{l:List ByteArray}{x:ByteArray}:(l.any fun y=>y.data.toList==x.data.toList)=true↔x∈l:=by
 rw [List.any_eq_true];constructor
 ·rintro⟨y,hy,e⟩
  have e1:y.data.toList=x.data.toList:=by simpa using e
  have:y=x:=by
   cases y;cases x
   simp at e1;rw [e1]
  exact this▸hy
 ·exact fun h=>⟨x,h,by simp⟩
theorem sam_iff{a b:List ByteArray}:samB a b=true↔ ∀ x,x∈a↔x∈b:=by
 rw [samB,Bool.and_eq_true,List.all_eq_true,List.all_eq_true];constructor
 ·rintro⟨h1,h2⟩ x
  exact⟨fun h=>ba_in.1 (h1 x h),fun h=>ba_in.1 (h2 x h)⟩
 ·exact fun h=>⟨fun x hx=>ba_in.2 ((h x).1 hx),fun x hx=>ba_in.2 ((h x).2 hx)⟩
theorem nd_le{α:Type}:∀ {a b:List α},a.Nodup->(∀ x∈a,x∈b)->a.length<=b.length
 |[],b,_,_=>Nat.zero_le _
 |x::a,b,h,hs=>by
  obtain⟨h1,h2⟩:=List.nodup_cons.1 h;obtain⟨p,q,rfl⟩:=List.append_of_mem (hs x (List.mem_cons_self ..))
  have:=nd_le (a:=a) (b:=p++q) h2 (fun y hy=>by
   have hm:=hs y (List.mem_cons_of_mem _ hy);simp only [List.mem_append,List.mem_cons] at hm ⊢
   rcases hm with hm|rfl|hm
   ·exact .inl hm
   ·exact absurd hy h1
   ·exact .inr hm)
  simp only [List.length_append,List.length_cons] at this ⊢;omega
theorem nd_back{α:Type}{a b:List α}(ha:a.Nodup)(hs:∀ x∈a,x∈b)(hl:b.length<=a.length):∀ x∈b,x∈a:=by
 intro x hx
 rcases Classical.em (x∈a) with h|h
 ·exact h
 ·exfalso
  have:=nd_le (a:=x::a) (b:=b) (List.nodup_cons.2 ⟨h,ha⟩) (fun y hy=>by
   rcases List.mem_cons.1 hy with rfl|hy
   ·exact hx
   ·exact hs y hy)
  simp at this;omega
theorem nd_same{a b:List ByteArray}(ha:a.Nodup)(hb:b.Nodup):samB a b=(decide (a.length=b.length)&&a.all fun x=>b.any fun y=>y.data.toList==x.data.toList):=by
 rw [Bool.eq_iff_iff,sam_iff,Bool.and_eq_true,decide_eq_true_eq,List.all_eq_true];constructor
 ·intro h;have h1:=nd_le ha (fun x hx=>(h x).1 hx);have h2:=nd_le hb (fun x hx=>(h x).2 hx);exact⟨by omega,fun x hx=>ba_in.2 ((h x).1 hx)⟩
 ·rintro⟨h1,h2⟩ x
  have hs:∀ x∈a,x∈b:=fun x hx=>ba_in.1 (h2 x hx)
  exact⟨fun h=>hs x h,fun h=>nd_back ha hs (by omega) x h⟩
theorem up_eq:∀ {a b:List ByteArray},a.Pairwise (fun x y=>Nm.ordL x.data.toList y.data.toList<0)->b.Pairwise (fun x y=>Nm.ordL x.data.toList y.data.toList<0)->(∀ x,x∈a↔x∈b)->a=b
 |[],[],_,_,_=>rfl
 |[],y::b,_,_,h=>absurd ((h y).2 (List.mem_cons_self ..)) (by simp)
 |x::a,[],_,_,h=>absurd ((h x).1 (List.mem_cons_self ..)) (by simp)
 |x::a,y::b,ha,hb,h=>by
  obtain⟨a1,a2⟩:=List.pairwise_cons.1 ha;obtain⟨b1,b2⟩:=List.pairwise_cons.1 hb;have irr:∀ (l:List UInt8),¬Nm.ordL l l<0:=fun l=>by rw [(ordL_zero l l).2 rfl];omega
  have e:x=y:=by
   rcases List.mem_cons.1 ((h x).1 (List.mem_cons_self ..)) with e|hx
   ·exact e
   ·rcases List.mem_cons.1 ((h y).2 (List.mem_cons_self ..)) with e|hy
    ·exact e.symm
    ·exact absurd (ordL_lt_trans (a1 y hy) (b1 x hx)) (irr _)
  subst e;congr 1;refine up_eq a2 b2 fun z=>?_
  have hz:=h z;simp only [List.mem_cons] at hz;constructor
  ·intro hm
   rcases hz.1 (.inr hm) with rfl|h2
   ·exact absurd (a1 z hm) (irr _)
   ·exact h2
  ·intro hm
   rcases hz.2 (.inr hm) with rfl|h2
   ·exact absurd (b1 z hm) (irr _)
   ·exact h2
section
variable {l:List It}{os:List GOw}{name:ByteArray}{lab:List ByteArray}
theorem hasS_tree(hT:TInv l os)(hl:∀ y∈l,GoodI y)(hn:Nm.split name=some lab)(t:Int):hasT lab t os=hasS (zoneT os) name t:=by
 rw [hasS]
 cases e:hasT lab t os with
 |true=>
  obtain⟨c,hc,h1,s,hs,h2⟩:=(hasT_iff ⟨hT.sorted.1,fun o ho=>(hT.sorted.2 o ho).1⟩ lab t).1 e;rw [fnd_yes hT hl hn hc hs h1 h2]
  rfl
 |false=>
  rw [fnd_no hn (fun o ho=>hT.nm hl ho) (fun c hc h1 s hs h2=>by
   have:=(hasT_iff ⟨hT.sorted.1,fun o ho=>(hT.sorted.2 o ho).1⟩ lab t).2 ⟨c,hc,h1,s,hs,h2⟩;rw [e] at this
   cases this)]
  rfl
theorem key_fold(hT:TInv l os)(hl:∀ y∈l,GoodI y){c:GOw}{s:GSe}(hc:c∈os)(hs:s∈c.ss){p:ByteArray×ByteArray}(hp:p∈s.da):p.1=foldR s.ty p.2:=by
 obtain⟨i,x,hF,h2⟩:=hT.dat c hc s hs p hp;have h3:=hF.2.1;have hg:=hl x hF.mem;rw [<- h3.2,hg.2.2.1,h3.1.2,h2]
theorem seD_yes(hT:TInv l os)(hl:∀ y∈l,GoodI y)(hn:Nm.split name=some lab){t:Int}{c:GOw}{s:GSe}(hc:c∈os)(hs:s∈c.ss)(h1:Nm.cmpLs c.lab lab=0)(h2:s.ty=t):seD (zoneT os) name t=s.da.map (·.1):=by
 rw [seD,fnd_yes hT hl hn hc hs h1 h2,Option.getD_some]
 show(s.da.map (·.2)).map (foldR t)=_
 rw [List.map_map];refine List.map_congr_left fun p hp=>?_
 rw [key_fold hT hl hc hs hp,h2];rfl
theorem seD_no(hT:TInv l os)(hl:∀ y∈l,GoodI y)(hn:Nm.split name=some lab){t:Int}(h:∀ c∈os,Nm.cmpLs c.lab lab=0->∀ s∈c.ss,s.ty≠t):seD (zoneT os) name t=[]:=by
 rw [seD,fnd_no hn (fun o ho=>hT.nm hl ho) h];rfl
theorem seD_up(hT:TInv l os)(hl:∀ y∈l,GoodI y)(hn:Nm.split name=some lab)(t:Int):(seD (zoneT os) name t).Pairwise (fun x y=>Nm.ordL x.data.toList y.data.toList<0):=by
 rcases Classical.em (∃ c∈os,Nm.cmpLs c.lab lab=0∧∃ s∈c.ss,s.ty=t) with⟨c,hc,h1,s,hs,h2⟩|h
 ·rw [seD_yes hT hl hn hc hs h1 h2,List.pairwise_map];exact(hT.sorted.2 c hc).2 s hs
 ·rw [seD_no hT hl hn (fun c hc h1 s hs h2=>h ⟨c,hc,h1,s,hs,h2⟩)];exact List.Pairwise.nil
end
theorem typZ_next{ps:List Zp}{name:ByteArray}{j:Nat}{q:Zp}(hq:ps[j]? =some q):typZ ((ps.take (j+1)).map (·.1)) name=typZ ((ps.take j).map (·.1)) name++(if sameS q.1.own name=true then [q.1.ty] else []):=by
 rw [Nm.take_step hq,List.map_append,typZ,typZ,List.filter_append,List.map_append];congr 1;simp only [List.map_cons,List.map_nil,List.filter_cons,List.filter_nil]
 split<;>rfl
theorem typ_bel{W wr w1:World}{v:Value}{B e n:Nat}{l:List Value}(hB:B<=wr.heap.size)
 (hown:wr.ownsRow B e 1 v n l) (hbel:Below B W wr) (o:Obj) (hgrow:(wr.alloc o).grownBy w1 v.ownBlock):Below B W w1:=by
 refine(hbel.alloc hB o).grown hgrow (by simp;omega) ?_;intro k hk;exact(hown.lt k hk).1
set_option maxRecDepth 100000 in
set_option maxHeartbeats 1600000 in
theorem l06Types_any(o name:ByteArray)(v:Value)(ps:List Zp)(w:World)(h:ZRow w v ps)(hl:ps.length<=1048576)(hf:∀ p∈ps,p.1.own.size<=1048576)(hn:name.size<=maxLen):
 Calls Tryz.prog 102 #[.agg #[.string o,v],.string name] w fun e w'=>∃ u,e=.returned u∧w'.ownsRow w.heap.size 2 1 u (typZ (ps.map (·.1)) name).length (intCells (typZ (ps.map (·.1)) name))∧Below w.heap.size w w':=by
 obtain⟨va,vc,rfl⟩:∃ va vc,v=.slice va ps.length vc:=by obtain⟨⟨_,a,c,e,_⟩,_⟩:=h;exact⟨a,c,e⟩
 obtain⟨i0,hi,hz0,hz1,hz2⟩:=info_parts infoI64K;have b0:=(Below.refl w.heap.size w).alloc (Nat.le_refl _) (.cells #[.string o,.slice va ps.length vc] 32);have k0:=blk_new w #[.string o,.slice va ps.length vc] 32;have HSm:=Nm.hide (fun(x:ByteArray) (hx:x.size<=1048576) W=>specSameName_any x name W (by unfold maxLen;omega) hn);have HZ:=Nm.hide (fun W (hW:Below w.heap.size w W)=>h.below hW);have HF:=Nm.hide hf;have HG:Hid (∀ W,Below w.heap.size w W->w.heap.size<=W.heap.size):=fun W hW=>hW.size
 have o0:=World.ownsRow_made (base:=w.heap.size) (e:=2) (size:=1) (w.alloc (.cells #[.string o,.slice va ps.length vc] 32)) #[] 0 b0.size (by decide) rfl;rw [World.size_alloc] at o0;have b1:=b0.alloc b0.size (.cells #[] 2);have k1:=blk_alloc k0 (.cells #[] 2);obtain⟨R,hR⟩:∃ R,R=typZ (ps.map (·.1)) name:=⟨_,rfl⟩;rw [<- hR];have HR:=Nm.hide hR;clear h hf hR b0 k0;go_enter Tryz.func102,Tryz.ntmps102;go_wp2;generalize hgg:w.heap.size=g at*;have HGG:=Nm.hide hgg;clear hgg
 go_loopw [5,6] (fun v i wr=>∃ (j m:Nat) (l:List Int),j<=ps.length∧i=.int .i64 j∧m<=j∧Hid (l.length=m)∧Hid (l=typZ ((ps.take j).map (·.1)) name)∧wr.ownsRow g 2 1 v m (intCells l)∧Below g w wr∧Blk wr g #[.string o,.slice va ps.length vc] 32) (fun _ i _=>ps.length-(intOf i).toNat)
 case atStart=>exact⟨0,0,[],Nat.zero_le _,rfl,Nat.le_refl _,rfl,rfl,o0,b1,k1⟩
 case round=>
  clear b1 k1 o0;obtain⟨j,m,l,hj,rfl,hm,HL,HT,hown,hb,kz⟩:=hrel;have rz:=fun i=>blk_cell kz i
  have hgw:=HG.out _ hb;obtain⟨oa,oc,rfl⟩:=own_sl hown
  by_cases hlt:j<ps.length
  ·obtain⟨q,hq⟩:∃ q,ps[j]? =some q:=⟨_,List.getElem?_eq_getElem hlt⟩;obtain⟨⟨_,a9,c9,e9,_,_,hc9⟩,hd9⟩:=HZ.out _ hb;simp only [Value.slice.injEq] at e9;obtain⟨rfl,_,rfl⟩:=e9;obtain⟨b,off,rfl,hcell⟩:=hc9 (by omega);obtain⟨d0,d1,d2,d3⟩:=zp_cells hcell hq;have hsm:=HSm.out q.1.own (HF.out q (List.mem_of_getElem? hq)) wr;have n1:(0:Int)<=(j:Int):=by omega
   have n2:(j:Int)<(ps.length:Int):=by omega
   have HNX:Hid (typZ ((ps.take (j+1)).map (·.1)) name=l++(if sameS q.1.own name=true then [q.1.ty] else [])):=by show _=_;rw [typZ_next hq,HT.out]
   clear hc9 hd9 hcell hq d2 d3;obtain⟨⟨x,ty,tt,ds⟩,u⟩:=q;simp only at d0 d1 hsm HNX
   cases hsb:sameS x name with
   |true=>
    rw [hsb] at hsm HNX;simp only [if_true] at HNX;have HCC:Hid (intCells l++[.int .i64 ty]=intCells (l++[ty])):=by show _=_;simp [intCells]
    have HL2:Hid ((l++[ty]).length=m+1):=by show _=_;rw [List.length_append,HL.out];rfl
    clear hsb HT;go_wp2_with fail
    refine hsm.mono ?_;rintro e w1 ⟨rfl,b1⟩;have kz1:=blk_below kz b1;have rz1:=fun i=>blk_cell kz1 i
    have up:=fun {O:Nat} {z:Value} (hz:wr.cell? ⟨b,O,none⟩=some z)=>(b1.cell (World.block_lt_of_cell? wr _ hz)).trans hz
    have f1:=up d1;have hown1:=own_below hown b1;have bw1:=hb.trans (b1.mono hgw);have hgw1:=HG.out _ bw1;clear up d0 d1 rz kz hb hown hsm b1;go_wp2_with (at_builtin;refine wpList_append_own _ rfl (.tmp 23) (.tmp 30) 142 rfl g 2 i0 (.int .i64 0) 1 8 Tryz.underlying142 hi hz0 hz1 hz2 rfl (by decide) _ _ _ rfl (hown1.alloc _) ⟨w1.heap.size,0,none⟩ 1 1 [.int .i64 ty] rfl rfl (cell_new1 _ _ _) (Nm.one_cell _ rfl) (by unfold maxLen;omega) (by omega) (by simp;omega) ?_)
    intro v' w6 hown6 hgrow _;rw [HCC.out] at hown6;have hb6:=typ_bel hgw1 hown1 bw1 _ hgrow;have kz6:=blk_grown (blk_alloc kz1 _) hgrow (own_nb hown1 kz1 (by decide));clear hgrow hown1 kz1 rz1 bw1;go_wp2;go_roundw
    case rel=>exact⟨j+1,m+1,_,hlt,by go_num,by omega,HL2,HNX.out.symm,hown6,hb6,kz6⟩
    case measure=>simp [intOf];omega
   |false=>
    rw [hsb] at hsm HNX;have HT2:Hid (l=typZ ((ps.take (j+1)).map (·.1)) name):=by show _=_;rw [HNX.out];simp
    clear hsb HT HNX;go_wp2_with (go_at_call 60;refine hsm.mono ?_;rintro e w1 ⟨rfl,b1⟩)
    go_roundw
    case rel=>exact⟨j+1,m,l,hlt,by go_num,by omega,HL,HT2,own_below hown b1,hb.trans (b1.mono hgw),blk_below kz b1⟩
    case measure=>simp [intOf];omega
  ·obtain rfl:j=ps.length:=by omega
   have i9:(ps.length:Int)<=(ps.length:Int):=by omega
   have HE:Hid (l=R):=by show _=_;rw [HR.out,HT.out,List.take_length]
   go_wp2;go_ret;rw [HGG.out];refine⟨_,rfl,?_,hb⟩;rw [<- HE.out,HL.out];exact hown
theorem isIn_own{os:List GOw}(h:OwS os)(lab:List ByteArray):(isIn (oCmp lab) os=true∧∃ q∈os,os[posOf (oCmp lab) os]? =some q∧Nm.cmpLs q.lab lab=0)∨(isIn (oCmp lab) os=false∧∀ q∈os,Nm.cmpLs q.lab lab≠0):=by
 rcases place_split (f:=oCmp lab) h (oCmp_mono lab) with⟨hi,A,C,e,hp,ha,hc⟩|⟨hi,A,o,C,e,hp,h0,ha,hc⟩
 ·refine .inr ⟨hi,fun q hq h1=>?_⟩;rw [e] at hq
  rcases List.mem_append.1 hq with hq|hq
  ·have:=ha q hq;rw [oCmp] at this;omega
  ·have:=hc q hq;rw [oCmp] at this;omega
 ·obtain⟨x,hx,h0⟩:=isIn_some hi;exact .inl ⟨hi,x,List.mem_of_getElem? hx,hx,h0⟩
def tyF(lab:List ByteArray)(q:GOw):List Int:=if Nm.cmpLs q.lab lab=0 then q.ss.map (·.ty) else []
theorem typ_flat{name:ByteArray}{lab:List ByteArray}(hn:Nm.split name=some lab):∀ (os:List GOw),(∀ q∈os,Nm.split q.nm=some q.lab)->typZ (zoneT os) name=os.flatMap (tyF lab)
 |[],_=>rfl
 |q::os,h=>by
  have ih:=typ_flat hn os (fun r hr=>h r (List.mem_cons_of_mem _ hr))
  have e1:zoneT (q::os)=(q.ss.map fun s=>szT (q,s))++zoneT os:=by
   simp [zoneT,grT,List.flatMap_cons,List.map_append,List.map_map,Function.comp_def]
  have e2:typZ (zoneT (q::os)) name=typZ (q.ss.map fun s=>szT (q,s)) name++typZ (zoneT os) name:=by
   rw [e1,typZ,typZ,typZ,List.filter_append,List.map_append]
  rw [e2,ih,List.flatMap_cons];congr 1;have hs:sameS q.nm name=decide (Nm.cmpLs q.lab lab=0):=same_cmp (h q List.mem_cons_self) hn;rw [typZ,tyF]
  by_cases hc:Nm.cmpLs q.lab lab=0
  ·rw [if_pos hc,List.filter_eq_self.2 (fun z hz=>by obtain⟨s,-,rfl⟩:=List.mem_map.1 hz;show sameS q.nm name=true;rw [hs];simpa using hc)];rw [List.map_map];rfl
  ·rw [if_neg hc,List.filter_eq_nil_iff.2 (fun z hz=>by obtain⟨s,-,rfl⟩:=List.mem_map.1 hz;show ¬sameS q.nm name=true;rw [hs];simpa using hc)];rfl
theorem flat_no{lab:List ByteArray}{os:List GOw}(h:∀ q∈os,Nm.cmpLs q.lab lab≠0):os.flatMap (tyF lab)=[]:=by
 rw [List.flatMap_eq_nil_iff];intro q hq;rw [tyF,if_neg (h q hq)]
theorem flat_yes{lab:List ByteArray}:∀ {os:List GOw},OwS os->∀ q∈os,Nm.cmpLs q.lab lab=0->os.flatMap (tyF lab)=q.ss.map (·.ty)
 |[],_,_,hq,_=>by cases hq
 |r::os,h,q,hq,h0=>by
  obtain⟨h1,h2⟩:=List.pairwise_cons.1 h;rw [List.flatMap_cons]
  rcases List.mem_cons.1 hq with rfl|hq
  ·rw [flat_no (lab:=lab) (fun x hx e=>by have:=h1 x hx;rw [cmpLs_eq_left h0,] at this;have h9:=cmpLs_symm e;omega),tyF,if_pos h0,List.append_nil]
  ·have:=h1 q hq;rw [flat_yes h2 q hq h0,tyF,if_neg (fun e=>by rw [cmpLs_eq_left e] at this;have h9:=cmpLs_symm h0;omega)];rfl
theorem TZ.ty{o name:ByteArray}{al lab:List ByteArray}{os:List GOw}(h:TZ os o al)(hn:Nm.split name=some lab):tyT os lab=typZ (zoneT os) name∧(isIn (oCmp lab) os=true↔0<(typZ (zoneT os) name).length):=by
 rw [typ_flat hn os h.nm,tyT]
 rcases isIn_own h.srt.1 lab with⟨hi,q,hq,hp,h0⟩|⟨hi,hno⟩
 ·rw [flat_yes h.srt.1 q hq h0,hi,hp];refine⟨rfl,fun _=>?_,fun _=>rfl⟩;obtain⟨s,hs⟩:=h.full q hq;have:=List.length_pos_of_mem hs;simpa using this
 ·rw [flat_no hno,hi];simp
end Go.Proofs.YtaceiajcecaapaaGreat
