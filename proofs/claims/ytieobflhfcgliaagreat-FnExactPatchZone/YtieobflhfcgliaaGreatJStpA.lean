import Derived.Test.YtieobflhfcgliaaGreatRows
import Derived.Laws.AppendOwn
import Derived.Deep.RegionHeld3
import Derived.Deep.RegionLaw
import Derived.Test.YtieobflhfcgliaaGreatJICheck
import Derived.Test.YtieobflhfcgliaaGreatJZrM
import Derived.Test.YtieobflhfcgliaaGreatJStI
import Derived.BigQuiet
namespace Go.Proofs.YtieobflhfcgliaaGreat
open Go
set_option linter.unusedVariables false
theorem step_append_own{P:Program}{ops:Array Oper}{o:Oper}{a:Act}{w:World}{K:Act->World->Prop}{Q:Exit->Act->World->Prop}{E:Prop}(hgd:o.guard=none)(s x:Operand)(t:TypeId)
 (ho:o.op=.call {callee:=.builtin .append,args:=#[s,x],argTypes:=#[t,t]})
 (base:Nat) (e:TypeId) (i:TypeInfo) (z:Value) (size bytes:Nat) (ht:P.underlying t=some (.slice e)) (hi:P.info? e=some i) (hz:i.zero=some z)
 (hsize:i.size=size) (hby:i.bytes=bytes) (hzs:z.cells.size=size) (hsz:0<size)
 (v:Value) (n:Nat) (xs:List Value) (hs:a.eval s=v) (hown:w.ownsRow base e size v n xs)
 (ad:Addr) (m c:Nat) (news:List Value) (hx:a.eval x=.slice (some ad) m c) (hl:news.length=m*size) (hnews:∀ j u,news[j]? =some u->w.cell? (ad.add j)=some u) (h1:∀ u∈news,u.oneCell'=true)
 (h63:n+m<=maxLen) (hbytes:(n+m)*bytes<=140737488355328) (hbase:base<=w.heap.size)
 (h:∀ v' w',w'.ownsRow base e size v' (n+m) (xs++news)->w.grownBy w' v.ownBlock->(v'=.slice none 0 0↔v=.slice none 0 0∧m=0)->K (a.put o.dst v') w'):
 if Region.wanted o (yielded ops a.tmps)=true then Oper.wp P o a w K Q else E:=by
 have hw:Region.wanted o (yielded ops a.tmps)=true:=by simp [Region.wanted,hgd]
 rw [if_pos hw];exact wp_append_own w s x t ho base e i z size bytes ht hi hz hsize hby hzs hsz v n xs hs hown ad m c news hx hl hnews h1 h63 hbytes hbase h
end Go.Proofs.YtieobflhfcgliaaGreat
namespace Go.Proofs.YtieobflhfcgliaaGreat
open Go.RowKit
set_option linter.unusedVariables false
def trTys:List TypeId:=[172,234,237,154,190,192,183,185]
def TyAt(W:World)(b:Nat)(ts:List TypeId):Prop:=∃ cs T r,W.heap[b]? =some (.cells cs T r)∧T∈ts
theorem ty_blk{W:World}{b:Nat}{cs:Array Value}{T:TypeId}{ts:List TypeId}(h:Blk W b cs T)(hT:T∈ts):TyAt W b ts:=⟨cs,T,_,h,hT⟩
theorem ty_own{W:World}{B e s n:Nat}{v:Value}{xs:List Value}{ts:List TypeId}(h:W.ownsRow B e s v n xs)(hT:e∈ts):∀ b∈v.ownBlock.toList,TyAt W b ts:=by
 intro b hb
 rcases h.2 with⟨rfl,_⟩|⟨q,cap,cur,rfl,_,hh,_⟩
 ·simp [Value.ownBlock] at hb
 ·simp [Value.ownBlock] at hb
  subst hb;exact⟨_,_,_,hh,hT⟩
theorem TrAt.types{W:World}{B th:Nat}{rv:Value}{os:List GOw}(h:TrAt W B th rv os):∀ b∈fpT th rv os,TyAt W b trTys:=by
 intro b hb;simp only [fpT,List.mem_cons,List.mem_append,List.mem_flatMap] at hb
 rcases hb with rfl|hb|⟨o,ho,hb⟩
 ·exact ty_blk h.head (by decide)
 ·exact ty_own h.rows (by decide) b hb
 ·have ow:=h.owners o ho;simp only [fpO,List.mem_cons,List.mem_append,List.mem_flatMap] at hb
  rcases hb with rfl|rfl|hb|⟨s,hs,hb⟩
  ·exact ty_blk ow.node (by decide)
  ·exact ty_blk ow.head (by decide)
  ·exact ty_own ow.rows (by decide) b hb
  ·have sw:=ow.sets s hs;simp only [fpS,List.mem_cons] at hb
   rcases hb with rfl|rfl|hb
   ·exact ty_blk sw.node (by decide)
   ·exact ty_blk sw.head (by decide)
   ·exact ty_own sw.rows (by decide) b hb
theorem own_out{W:World}{B e s n:Nat}{v:Value}{xs:List Value}{ts:List TypeId}{b:Nat}(h:W.ownsRow B e s v n xs)(ht:TyAt W b ts)(hT:e∉ts):b∉v.ownBlock.toList:=by
 intro hb;obtain⟨cs,T,r,h1,h2⟩:=ht
 rcases h.2 with⟨rfl,_⟩|⟨q,cap,cur,rfl,_,hh,_⟩
 ·simp [Value.ownBlock] at hb
 ·simp [Value.ownBlock] at hb
  subst hb;rw [hh] at h1;cases h1
  exact hT h2
theorem blk_out{W:World}{b c:Nat}{cs:Array Value}{T:TypeId}{ts:List TypeId}(h:Blk W c cs T)(ht:TyAt W b ts)(hT:T∉ts):b≠c:=by
 rintro rfl;obtain⟨cs',T',r,h1,h2⟩:=ht;rw [Blk] at h;rw [h] at h1;cases h1
 exact hT h2
theorem own_outs{fp:List Nat}{W W':World}{B e s n:Nat}{v:Value}{xs:List Value}(h:W.ownsRow B e s v n xs)(ho:Outs fp W W')(hn:∀ b∈fp,b∉v.ownBlock.toList):W'.ownsRow B e s v n xs:=
 own_keep h (fun b hb=>ho.block b (own_lt h b hb) (fun hm=>hn b hm hb))
theorem blk_outs{fp:List Nat}{W W':World}{b:Nat}{cs:Array Value}{T:TypeId}(h:Blk W b cs T)(ho:Outs fp W W')(hn:b∉fp):Blk W' b cs T:=blk_keep h (ho.block b (blk_lt h) hn)
theorem rowBlk_own{W:World}{B e s n:Nat}{v:Value}{xs:List Value}(h:W.ownsRow B e s v n xs){b:Nat}(hb:rowBlk v=some b):b∈v.ownBlock.toList:=by
 rcases h.2 with⟨rfl,_⟩|⟨q,cap,cur,rfl,_,hh,_⟩
 ·cases hb
 ·simp [rowBlk] at hb
  simp [Value.ownBlock,hb]
structure BSt (B:Nat) (W:World) (th:Nat) (its:List It) (rv:Value) (os:List GOw) (kv:Value) (ks:List Ld):Prop where
 tr:TrAt W B th rv os
 inv:TInv its os
 kin:KInv its os ks
 kept:W.ownsRow B 167 4 kv ks.length (ldVs ks)
 lab:LabAt W (fpT th rv os) os
 fpl:∀ b∈fpT th rv os,b=th∨B<=b
 lty:∀ o∈os,o.lab≠[]->∀ b,rowBlk o.lv=some b->TyAt W b [9]
theorem ty_keep{W W':World}{b:Nat}{ts:List TypeId}(h:TyAt W b ts)(he:W'.heap[b]? =W.heap[b]?):TyAt W' b ts:=by
 obtain⟨cs,T,r,h1,h2⟩:=h;exact⟨cs,T,r,he.trans h1,h2⟩
theorem BSt.nil{B th:Nat}{W:World}(h:Blk W th #[cmpLv,.slice none 0 0] 183):BSt B W th [] (.slice none 0 0) [] (.slice none 0 0) []:=
 ⟨⟨h,World.ownsRow_nil _ _ _ _,by simp,by simp [fpT,Value.ownBlock]⟩,TInv.nil,KInv.nil,World.ownsRow_nil _ _ _ _,by simp [LabAt],by simp [fpT,Value.ownBlock],by simp⟩
theorem BSt.outs{B th:Nat}{W W':World}{its:List It}{rv kv:Value}{os:List GOw}{ks:List Ld}{fp:List Nat}(h:BSt B W th its rv os kv ks)(ho:Outs fp W W')(h1:∀ b∈fp,b∉fpT th rv os)(h2:∀ b∈fp,b∉kv.ownBlock.toList)
 (h3:∀ o∈os,∀ b∈fp,rowBlk o.lv≠some b):BSt B W' th its rv os kv ks:=by
 refine⟨h.tr.keep (fun b hb=>ho.block b (h.tr.lt b hb) (fun hm=>h1 b hm hb)),h.inv,h.kin,own_outs h.kept ho h2,fun o hm=>?_,h.fpl,fun o hm hne b hb=>ty_keep (h.lty o hm hne b hb) (ho.block b ((h.lab o hm).far hne b hb).2 (fun hf=>h3 o hm b hf hb))⟩;have hl:=h.lab o hm;refine⟨srow_keep hl.row (fun hne b hb=>ho.block b (hl.far hne b hb).2 (fun hf=>h3 o hm b hf hb)),fun hne b hb=>⟨(hl.far hne b hb).1,Nat.lt_of_lt_of_le (hl.far hne b hb).2 ho.size⟩,hl.fit⟩
theorem BSt.below{B th:Nat}{W W':World}{its:List It}{rv kv:Value}{os:List GOw}{ks:List Ld}(h:BSt B W th its rv os kv ks)(hb:Below W.heap.size W W'):BSt B W' th its rv os kv ks:=
 h.outs (Outs.below (fp:=[]) hb) (by simp) (by simp) (by simp)
structure LaidR (B N:Nat) (W W':World) (th:Nat) (its:List It) (x:It) (rv rv':Value) (os os':List GOw) (kv:Value) (ks:List Ld) (ob sb:Nat) (isNew:Bool):Prop where
 tr:TrAt W' B th rv' os'
 inv:TInv (its++[x]) os'
 kin:KInv (its++[x]) os' (if isNew=true then ks++[⟨its.length,x.r.ty,ob,sb⟩] else ks)
 kept:W'.ownsRow B 167 4 kv ks.length (ldVs ks)
 lab:LabAt W' (fpT th rv' os') os'
 fpl:∀ b∈fpT th rv' os',b=th∨B<=b
 sbm:sb∈fpT th rv' os'
 lvb:∀ o∈os',o.lab≠[]->∀ b,rowBlk o.lv=some b->b<N
 lty:∀ o∈os',o.lab≠[]->∀ b,rowBlk o.lv=some b->TyAt W' b [9]
 tt:∃ tt:Int,W'.cell? ⟨sb,0,none⟩=some (.int .i64 tt)∧mixI its x=decide (tt≠x.r.tt)
theorem laid_r{B N th at_:Nat}{W W':World}{its:List It}{x:It}{lv:Value}{rv rv' kv:Value}{os os':List GOw}{ks:List Ld}{ob sb:Nat}{isNew:Bool}(h:BSt B W th its rv os kv ks)(hB:B<=W.heap.size)(hg:∀ y∈its,GoodI y)(hx:GoodI x)(hat:at_=its.length)
 (hL:LayG x.r.own lv (labI x) x.r.ty x.r.tt at_ x.dt x.r.da os os' ob sb isNew) (hT:TrAt W' B th rv' os') (ho:Outs (fpT th rv os) W W') (hf:∀ b∈fpT th rv' os',b∈fpT th rv os∨W.heap.size<=b)
 (hlv:LabOK W (fpT th rv os) lv (labI x)) (hN1:∀ o∈os,o.lab≠[]->∀ b,rowBlk o.lv=some b->b<N) (hN2:labI x≠[]->∀ b,rowBlk lv=some b->b<N) (hT2:labI x≠[]->∀ b,rowBlk lv=some b->TyAt W b [9]):LaidR B N W W' th its x rv rv' os os' kv ks ob sb isNew:=by
 subst hat;obtain⟨o',s',hP,eo,es⟩:=layP_of h.inv.sorted hL;have hR:=lay_r h.inv hP;refine⟨hT,hR.inv,by rw [<- eo,<- es];exact h.kin.step hg hx hR,own_outs h.kept ho (fun b hb=>own_out h.kept (h.tr.types b hb) (by decide)),fun q hq=>?_,fun b hb=>?_,?_,fun q hq=>?_,fun q hq=>?_,?_⟩
 ·rcases hR.lvs q hq with⟨o,hm,e1,e2⟩|⟨e1,e2⟩
  ·have:=(h.lab o hm).outs ho hf;rw [e1,e2];exact this
  ·have:=hlv.outs ho hf;rw [e1,e2];exact this
 ·rcases hf b hb with h1|h1
  ·exact h.fpl b h1
  ·exact .inr (by omega)
 ·rw [<- es];simp only [fpT,fpO,fpS,List.mem_cons,List.mem_append,List.mem_flatMap];exact .inr (.inr ⟨o',hR.isOwn.1,.inr (.inr (.inr ⟨s',hR.isSet.1,.inl rfl⟩))⟩)
 ·rcases hR.lvs q hq with⟨o,hm,e1,e2⟩|⟨e1,e2⟩
  ·rw [e1,e2];exact hN1 o hm
  ·rw [e1,e2];exact hN2
 ·rcases hR.lvs q hq with⟨o,hm,e1,e2⟩|⟨e1,e2⟩
  ·rw [e1,e2];intro hne b hb;exact ty_keep (h.lty o hm hne b hb) (ho.block b ((h.lab o hm).far hne b hb).2 ((h.lab o hm).far hne b hb).1)
  ·rw [e1,e2];intro hne b hb;exact ty_keep (hT2 hne b hb) (ho.block b (hlv.far hne b hb).2 (hlv.far hne b hb).1)
 ·have sw:=(hT.owners o' hR.isOwn.1).sets s' hR.isSet.1;refine⟨s'.tt,by rw [<- es];exact(blk_cell sw.node 0).trans rfl,?_⟩;obtain⟨y,hF,ht⟩:=hR.inv.set o' hR.isOwn.1 s' hR.isSet.1;have hox:Nm.cmpLs (labI x) o'.lab=0:=hR.isOwn.2
  have hkin:∀ z∈its,(kinB x z=true↔OfS o'.lab s'.ty z):=fun z hz=>by
   rw [kin_of hx (hg z hz),hR.isSet.2,OfS,OfS,OfO,OfO,cmpLs_eq_right hox]
  by_cases hfi:s'.fi<its.length
  ·have hy:its[s'.fi]? =some y:=by have:=hF.1;rwa [List.getElem?_append_left hfi] at this
   have hfind:=find_take_at (l:=its) (p:=kinB x) (k:=its.length) hfi hy ((hkin y (List.mem_of_getElem? hy)).2 hF.2.1) (fun j z hj hz=>by
    cases hb:kinB x z with
    |false=>rfl
    |true=>
     exfalso
     exact hF.2.2 j z hj (by rw [List.getElem?_append_left (by omega)];exact hz) ((hkin z (List.mem_of_getElem? hz)).1 hb))
   rw [List.take_length] at hfind;rw [mixI,hfind,ht]
  ·have hlt:=hF.lt;have e:s'.fi=its.length:=by rw [List.length_append,List.length_singleton] at hlt;omega
   have hy:y=x:=by
    have h1:=hF.1;rw [e,List.getElem?_append_right (Nat.le_refl _)] at h1;simp at h1;exact h1.symm
   have hno:its.find? (kinB x)=none:=by
    have:=find_take_no (l:=its) (p:=kinB x) (k:=its.length) (fun j z hj hz=>by
     cases hb:kinB x z with
     |false=>rfl
     |true=>
      exfalso
      exact hF.2.2 j z (by omega) (by rw [List.getElem?_append_left hj];exact hz) ((hkin z (List.mem_of_getElem? hz)).1 hb))
    rwa [List.take_length] at this
   rw [mixI,hno,ht,hy];simp
theorem good_item{r:Rr}(h:(Nm.split r.own).isSome=true):GoodI (itemOf r):=by
 obtain⟨xs,hx⟩:=Option.isSome_iff_exists.1 h;have e:labI (itemOf r)=xs:=by simp [labI,itemOf,hx]
 exact⟨by rw [e];exact hx,rfl,rfl,rfl⟩
theorem LbRow.outs{W W':World}{B:Nat}{v:Value}{lvs:List Value}{xss:List (List ByteArray)}{fp:List Nat}{ts:List TypeId}(h:LbRow W B v lvs xss)(ho:Outs fp W W')(ht:∀ b∈fp,TyAt W b ts)(h1:115∉ts)(h2:9∉ts):LbRow W' B v lvs xss:=
 ⟨own_outs h.outer ho (fun b hb=>own_out h.outer (ht b hb) h1),h.len,fun i u xs e1 e2=>own_outs (h.inner i u xs e1 e2) ho (fun b hb=>own_out (h.inner i u xs e1 e2) (ht b hb) h2)⟩
theorem lab_ok{W:World}{B:Nat}{v u:Value}{lvs:List Value}{list:List Rr}{k:Nat}{r:Rr}{fp:List Nat}(h:LbRow W B v lvs (labsOf list))(hu:lvs[k]? =some u)(hr:list[k]? =some r)(hs:(Nm.split r.own).isSome=true)(ht:∀ b∈fp,TyAt W b trTys):LabOK W fp u (labI (itemOf r)):=by
 have e:(labsOf list)[k]? =some (labI (itemOf r)):=by simp [labsOf,hr,labI,itemOf]
 have ho:=h.inner k u _ hu e;obtain⟨xs,hx⟩:=Option.isSome_iff_exists.1 hs;have e2:labI (itemOf r)=xs:=by simp [labI,itemOf,hx]
 refine⟨srow_own ho,fun _ b hb=>?_,?_⟩
 ·have hm:=rowBlk_own ho hb;exact⟨fun hf=>own_out ho (ht b hf) (by decide) hm,own_lt ho b hm⟩
 ·rw [e2];have:=lab_fit hx;exact⟨this.1,by omega⟩
theorem lab_ty{W:World}{B:Nat}{v u:Value}{lvs:List Value}{list:List Rr}{k:Nat}{r:Rr}(h:LbRow W B v lvs (labsOf list))(hu:lvs[k]? =some u)(hr:list[k]? =some r){b:Nat}(hb:rowBlk u=some b):TyAt W b [9]:=by
 have e:(labsOf list)[k]? =some (labI (itemOf r)):=by simp [labsOf,hr,labI,itemOf]
 have ho:=h.inner k u _ hu e;exact ty_own ho (by simp) b (rowBlk_own ho hb)
theorem outs_two{w W W':World}{B bb th:Nat}{fp:List Nat}(h:Outs [bb,th] w W)(h2:Outs fp W W')(hf:∀ b∈fp,b=th∨B<=b)(hB:w.heap.size<=B):Outs [bb,th] w W':=
 h.trans h2 (fun k hk=>by
  rcases hf k hk with h1|h1
  ·exact .inl (by simp [h1])
  ·exact .inr (by omega))
theorem layAt{B th bb k:Nat}{wr:World}{list:List Rr}{x:Rr}{rv kv labv:Value}{os:List GOw}{ks:List Ld}{lvs:List Value}{va:Option Addr}{vn vc B0:Nat}{cs:Array Value}(hS:BSt B wr th ((list.map itemOf).take k) rv os kv ks)(hlb:LbRow wr B0 labv lvs (labsOf list))(hB:B<=wr.heap.size)
 (hg:∀ r∈list,(Nm.split r.own).isSome=true) (hx:list[k]? =some x) (hu:lvs[k]? =some (.slice va vn vc)) (hl:list.length<=500) (kb:Blk wr bb cs 121) (hc:cs[4]? =some (ptr th)) (hown:x.own.size<=1000000000) (hda:x.da.size<=2000000):
 ∀ W,Below wr.heap.size wr W->Calls Tryz.prog 135 #[.pointer (some ⟨bb,3,none⟩),.int .i64 (k:Int),.agg #[.string x.own,.int .i64 x.ty,.int .i64 x.cl,.int .i64 x.tt,.string x.da],.slice va vn vc] W fun e w'=>∃ (ob sb:Nat) (isNew:Bool) (rv':Value) (os':List GOw),
   e=.returned (.tuple #[.agg #[.int .i64 (k:Int),.int .i64 x.ty,.pointer (some ⟨ob,0,none⟩),.pointer (some ⟨sb,0,none⟩)],.bool isNew])∧LaidR B wr.heap.size W w' th ((list.map itemOf).take k) (itemOf x) rv rv' os os' kv ks ob sb isNew∧Outs (fpT th rv os) W w'∧∀ b∈fpT th rv' os',b∈fpT th rv os∨W.heap.size<=b:=by
 intro W hW;have hkl:=(List.getElem?_eq_some_iff.1 hx).1;have hS':=hS.below hW
 have hgI:∀ y∈list.map itemOf,GoodI y:=fun y hy=>by
  obtain⟨r,hr,rfl⟩:=List.mem_map.1 hy;exact good_item (hg r hr)
 have hgx:=good_item (hg x (List.mem_of_getElem? hx));have hlen:((list.map itemOf).take k).length=k:=by rw [List.length_take,List.length_map];omega
 have hol:os.length<=400000:=by have:=hS.inv.len.1;omega
 have hlab:=lab_ok (hlb.below hW) hu hx (hg x (List.mem_of_getElem? hx)) hS'.tr.types;have kb':=blk_below kb hW;have hcc:W.cell? ⟨bb,3+1,none⟩=some (ptr th):=(blk_cell kb' 4).trans hc;have hbb:bb∉fpT th rv os:=fun hm=>blk_out kb' (hS'.tr.types bb hm) (by decide) rfl
 refine(lay_any bb 3 th rv os B k x va vn vc (labI (itemOf x)) W hS'.tr (Nat.le_trans hB hW.size) hol (hS.inv.trs (by omega)) hS'.lab hlab hcc hbb hown hda (by omega)).mono ?_;rintro e w' ⟨ob,sb,isNew,rv',os',rfl,hL,hT,hO,hf⟩;refine⟨ob,sb,isNew,rv',os',rfl,laid_r hS' (Nat.le_trans hB hW.size) (fun y hy=>hgI y (List.mem_of_mem_take hy)) hgx hlen.symm hL hT hO hf hlab (fun o ho hne b hb=>((hS.lab o ho).far hne b hb).2) (fun hne b hb=>((lab_ok hlb hu hx (hg x (List.mem_of_getElem? hx)) hS.tr.types).far hne b hb).2) (fun hne b hb=>lab_ty (hlb.below hW) hu hx hb),hO,hf⟩
theorem LaidR.more{B N th g:Nat}{W w' W2:World}{its:List It}{x:It}{rv rv' kv:Value}{os os':List GOw}{ks:List Ld}{ob sb:Nat}{isNew:Bool}(h:LaidR B N W w' th its x rv rv' os os' kv ks ob sb isNew)(ho:Outs [g] w' W2)(h1:g∉fpT th rv' os')(h2:g∉kv.ownBlock.toList)(h3:N<=g):LaidR B N W W2 th its x rv rv' os os' kv ks ob sb isNew:=by
 refine⟨h.tr.keep (fun b hb=>ho.block b (h.tr.lt b hb) (fun hm=>h1 (by rw [List.mem_singleton.1 hm] at hb;exact hb))),h.inv,h.kin,own_outs h.kept ho (fun b hb=>by rw [List.mem_singleton.1 hb];exact h2),fun o hm=>?_,h.fpl,h.sbm,h.lvb,fun o hm hne b hb=>ty_keep (h.lty o hm hne b hb) (ho.block b ((h.lab o hm).far hne b hb).2 (fun hf=>by have:=h.lvb o hm hne b hb;rw [List.mem_singleton.1 hf] at this;omega)),?_⟩
 ·have hl:=h.lab o hm;exact⟨srow_keep hl.row (fun hne b hb=>ho.block b (hl.far hne b hb).2 (fun hf=>by have:=h.lvb o hm hne b hb;rw [List.mem_singleton.1 hf] at this;omega)),fun hne b hb=>⟨(hl.far hne b hb).1,Nat.lt_of_lt_of_le (hl.far hne b hb).2 ho.size⟩,hl.fit⟩
 ·obtain⟨tt,hc,hm⟩:=h.tt;exact⟨tt,outs_cell ho hc (fun hf=>h1 (by rw [<- List.mem_singleton.1 hf];exact h.sbm)),hm⟩
theorem ldVs_snoc(l:List Ld)(x:Ld):ldVs (l++[x])=ldVs l++ldC x:=by simp [ldVs]
theorem LaidR.old{B N th:Nat}{W W' W2:World}{its:List It}{x:It}{rv rv' kv:Value}{os os':List GOw}{ks:List Ld}{ob sb:Nat}(h:LaidR B N W W' th its x rv rv' os os' kv ks ob sb false)(hb:Below W'.heap.size W' W2):BSt B W2 th (its++[x]) rv' os' kv ks:=
 (BSt.below ⟨h.tr,h.inv,by simpa using h.kin,h.kept,h.lab,h.fpl,h.lty⟩ hb)
theorem LaidR.new{B N th bb:Nat}{W W' Wa w9:World}{its:List It}{x:It}{rv rv' kv kv':Value}{os os':List GOw}{ks:List Ld}{ob sb:Nat}{cs:Array Value}(h:LaidR B N W W' th its x rv rv' os os' kv ks ob sb true)(hb:Below W'.heap.size W' Wa)
 (hg:Wa.grownBy w9 kv.ownBlock) (ho:w9.ownsRow B 167 4 kv' (ks.length+1) (ldVs ks++ldC ⟨its.length,x.r.ty,ob,sb⟩)) (kb:Blk w9 bb cs 121):BSt B (w9.setCell ⟨bb,5,none⟩ kv') th (its++[x]) rv' os' kv' (ks++[⟨its.length,x.r.ty,ob,sb⟩]):=by
 have ta:=h.tr.below hb;have ka:=own_below h.kept hb
 have hout:Outs (bb::kv.ownBlock.toList) Wa (w9.setCell ⟨bb,5,none⟩ kv'):=by
  refine⟨hg.os,hg.tape,hg.output,by simpa using hg.size,fun k hk hn=>?_⟩;simp only [List.mem_cons,not_or] at hn;rw [heap_setCell_other w9 ⟨bb,5,none⟩ k _ hn.1];exact hg.block k hk (fun e=>hn.2 (by rw [<- e];simp))
 have nty:∀ (b:Nat) (ts:List TypeId),TyAt Wa b ts->167∉ts->121∉ts->b∉bb::kv.ownBlock.toList:=by
  intro b ts ht n1 n2 hbm;have hk:=own_out ka ht n1
  rcases List.mem_cons.1 hbm with h1|h1
  ·have hlt:b<Wa.heap.size:=by
    obtain⟨c',T',r',e1,_⟩:=ht;exact(Array.getElem?_eq_some_iff.1 e1).1
   refine blk_out kb (b:=bb) (ts:=ts) ?_ n2 rfl;rw [<- h1];exact ty_keep ht (hg.block b hlt (fun e=>hk (by rw [<- e];simp)))
  ·exact hk h1
 refine⟨ta.keep (fun b hm=>hout.block b (ta.lt b hm) (nty b _ (ta.types b hm) (by decide) (by decide))),h.inv,by simpa using h.kin,?_,fun o hm=>?_,h.fpl,fun o hm hne b hb2=>?_⟩
 ·rw [ldVs_snoc];have:=own_far (i:=5) (y:=kv') ho (own_nb ho kb (by decide));simpa using this
 ·have hl:=h.lab o hm;refine⟨srow_keep (hl.row.below hb) (fun hne b hbb=>?_),fun hne b hbb=>⟨(hl.far hne b hbb).1,Nat.lt_of_lt_of_le (hl.far hne b hbb).2 (Nat.le_trans hb.size hout.size)⟩,hl.fit⟩;exact hout.block b (Nat.lt_of_lt_of_le (hl.far hne b hbb).2 hb.size) (nty b _ (ty_keep (h.lty o hm hne b hbb) (hb.block b (hl.far hne b hbb).2)) (by decide) (by decide))
 ·have hl:=h.lab o hm;have h9:=ty_keep (h.lty o hm hne b hb2) (hb.block b (hl.far hne b hb2).2);exact ty_keep h9 (hout.block b (Nat.lt_of_lt_of_le (hl.far hne b hb2).2 hb.size) (nty b _ h9 (by decide) (by decide)))
end Go.Proofs.YtieobflhfcgliaaGreat
