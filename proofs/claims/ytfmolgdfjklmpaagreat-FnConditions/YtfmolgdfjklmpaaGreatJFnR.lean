import Derived.Test.YtfmolgdfjklmpaaGreatJCnQ
import Derived.Test.YtfmolgdfjklmpaaGreatJFnT
import Derived.Test.YtfmolgdfjklmpaaGreatJZoK
import Derived.Test.YtfmolgdfjklmpaaGreatJDrH
import Derived.Test.YtfmolgdfjklmpaaGreatJSls
import Derived.Test.YtfmolgdfjklmpaaGreatZbZ
namespace Go.Proofs.YtfmolgdfjklmpaaGreat
open Go.RowKit
set_option linter.unusedVariables false
theorem its_r{xs:List Rr}{x:It}(h:x∈itsOf xs):x.r∈xs∧x.fo=Nm.foldS x.r.own:=by
 obtain⟨i,hi⟩:=List.getElem?_of_mem h
 cases hx:xs[i]? with
 |none=>
  have h1:=(List.getElem?_eq_some_iff.1 hi).1;rw [its_len] at h1;rw [List.getElem?_eq_none_iff] at hx
  omega
 |some r=>
  have h2:=its_at hx;rw [hi] at h2;obtain rfl:=Option.some.inj h2;exact⟨List.mem_of_getElem? hx,rfl⟩
theorem own_is{l:List It}{x:It}(h:x∈l):∃ y∈l,ownI l x.fo=y.r.own:=by
 rw [ownI]
 cases e:l.find? (fun y=>decide (y.fo=x.fo)) with
 |some y=>exact⟨y,List.mem_of_find?_eq_some e,rfl⟩
 |none=>
  have:=List.find?_eq_none.1 e x h;simp at this
def ZS(s:Sz):Prop:=s.own.size<=1000∧∀ d∈s.da,d.size<=3200
theorem grp_bd{l srt:List It}(hs:∀ x∈srt,x∈l)(hl:∀ x∈l,ZR x.r):∀ (k:Nat),k<=srt.length->∀ s∈grpK l srt k,ZS s:=by
 intro k
 induction k with
 |zero=>intro _ s h;simp [grpK] at h
 |succ k ih=>
  intro hk;have ih':=ih (by omega);obtain⟨x,hx⟩:∃ x,srt[k]? =some x:=⟨_,List.getElem?_eq_getElem (by omega)⟩;have hxl:=hs x (List.mem_of_getElem? hx)
  cases hn:newSet srt k x with
  |true=>
   rw [grpK_new hx hn];intro s h
   rcases List.mem_append.1 h with h|h
   ·exact ih' s h
   ·simp at h;subst h;obtain⟨y,hy,e⟩:=own_is hxl;refine⟨by show(ownI l x.fo).size<=1000;rw [e];exact(hl y hy).1,fun d hd=>?_⟩;simp at hd;subst hd
    exact(hl x hxl).2
  |false=>
   have hk0:0<k:=by
    rcases Nat.eq_zero_or_pos k with h|h
    ·subst h;simp [newSet] at hn
    ·exact h
   obtain⟨qs,s,e⟩:=grpK_last (l:=l) (srt:=srt) k hk0 (by omega);rw [grpK_old hx hn e];rw [e] at ih';intro t ht
   rcases List.mem_append.1 ht with h|h
   ·exact ih' t (List.mem_append.2 (.inl h))
   ·simp at h;subst h;have h3:=ih' s (by simp);refine⟨h3.1,fun d hd=>?_⟩
    rcases List.mem_append.1 hd with hd|hd
    ·exact h3.2 d hd
    ·simp at hd;subst hd;exact(hl x hxl).2
theorem srt_its{xs:List Rr}{x:It}(h:x∈srtOf xs):x∈itsOf xs:=by
 rw [srtOf,sortI] at h;have:=sortF_mem.1 h;exact(List.mem_filter.1 this).1
theorem srt_le(xs:List Rr):(srtOf xs).length<=xs.length:=by
 rw [srtOf,sortI,sortF_len,restOf];refine Nat.le_trans (List.length_filter_le _ _) ?_;rw [its_len];exact Nat.le_refl _
structure ZB (ps:List Zp) (N:Nat):Prop where
 one:∀ p∈ps,ZS p.1
 len:ps.length<=N
 cnt:cntS (ps.map (·.1))<=N
theorem zb_nil(N:Nat):ZB [] N:=⟨by simp,Nat.zero_le _,Nat.zero_le _⟩
theorem bld_zb{xs:List Rr}{ps:List Zp}{N:Nat}(h:∀ r∈xs,ZR r)(hl:xs.length<=N)(hp:ps.map (·.1)=bldZ xs):ZB ps N:=by
 have h1:=srt_le xs;have h2:=grpK_len (l:=itsOf xs) (srt:=srtOf xs) (srtOf xs).length (Nat.le_refl _);have h3:=congrArg List.length hp;rw [List.length_map] at h3;refine⟨fun p hp'=>?_,?_,?_⟩
 ·have hm:p.1∈bldZ xs:=by rw [<- hp];exact List.mem_map_of_mem hp'
  exact grp_bd (fun x hx=>srt_its hx) (fun x hx=>h x.r (its_r hx).1) _ (Nat.le_refl _) _ hm
 ·rw [h3];exact Nat.le_trans h2.1 (by omega)
 ·rw [hp,bldZ,grp_cnt _ _ _ (Nat.le_refl _)];omega
theorem ssum_bd:∀ {l:List ByteArray} {M:Nat},(∀ d∈l,d.size<=M)->ssum l<=M*l.length
 |[],M,_=>Nat.zero_le _
 |d::l,M,h=>by
  have h1:=ssum_bd (l:=l) (fun x hx=>h x (List.mem_cons_of_mem _ hx));have h2:=h d (List.mem_cons_self ..);simp only [ssum,List.length_cons,Nat.mul_add,Nat.mul_one];omega
theorem zsum_bd:∀ {ps:List Zp},(∀ p∈ps,ZS p.1)->zsum ps<=1000*ps.length+3201*cntS (ps.map (·.1))
 |[],_=>Nat.zero_le _
 |p::ps,h=>by
  have h1:=zsum_bd (ps:=ps) (fun x hx=>h x (List.mem_cons_of_mem _ hx));have h2:=h p (List.mem_cons_self ..);have h3:=ssum_bd h2.2;have h4:=h2.1;simp only [zsum,zs1,List.length_cons,List.map_cons,cntS,List.sum_cons,Nat.mul_add] at h1 ⊢;omega
theorem ZB.sum{ps:List Zp}{N:Nat}(h:ZB ps N)(hN:N<=240):zsum ps<=1048576:=by
 have h1:=zsum_bd h.one;have h2:=h.len;have h3:=h.cnt;omega
structure ZT (ps:List Zp) (N:Nat):Prop where
 one:∀ p∈ps,p.1.own.size<=2000∧∀ d∈p.1.da,d.size<=3200
 len:ps.length<=N
 cnt:cntS (ps.map (·.1))<=N
theorem zt_nil(N:Nat):ZT [] N:=⟨by simp,Nat.zero_le _,Nat.zero_le _⟩
theorem ZB.zt{ps:List Zp}{N:Nat}(h:ZB ps N):ZT ps N:=⟨fun p hp=>⟨by have:=(h.one p hp).1;omega,(h.one p hp).2⟩,h.len,h.cnt⟩
theorem ZT.tail{p:Zp}{ps:List Zp}{N:Nat}(h:ZT (p::ps) N):ZT ps N:=
 ⟨fun q hq=>h.one q (List.mem_cons_of_mem _ hq),by have:=h.len;simp at this;omega,by have:=h.cnt;simp only [cntS,List.map_cons,List.sum_cons] at this ⊢;omega⟩
theorem cnt_mem:∀ {ps:List Zp} {p:Zp},p∈ps->p.1.da.length<=cntS (ps.map (·.1))
 |q::ps,p,h=>by
  rcases List.mem_cons.1 h with rfl|h
  ·simp only [cntS,List.map_cons,List.sum_cons];omega
  ·have:=cnt_mem h;simp only [cntS,List.map_cons,List.sum_cons] at this ⊢;omega
theorem cnt_set:∀ {ps:List Zp} {j:Nat} {p q:Zp},ps[j]? =some p->q.1.da.length<=p.1.da.length->cntS ((ps.set j q).map (·.1))<=cntS (ps.map (·.1))
 |[],j,p,q,h,_=>by simp at h
 |r::ps,0,p,q,h,hq=>by
  simp at h;subst h;simp only [List.set_cons_zero,cntS,List.map_cons,List.sum_cons]
  omega
 |r::ps,j+1,p,q,h,hq=>by
  have:=cnt_set (ps:=ps) (j:=j) (p:=p) (q:=q) (by simpa using h) hq;simp only [List.set_cons_succ,cntS,List.map_cons,List.sum_cons] at this ⊢;omega
theorem ZT.set{ps:List Zp}{N j:Nat}{p q:Zp}(h:ZT ps N)(hp:ps[j]? =some p)(ho:q.1.own.size<=2000)(hd:∀ d∈q.1.da,d∈p.1.da)(hl:q.1.da.length<=p.1.da.length):ZT (ps.set j q) N:=by
 refine⟨fun r hr=>?_,by rw [List.length_set];exact h.len,Nat.le_trans (cnt_set hp hl) h.cnt⟩
 rcases List.mem_or_eq_of_mem_set hr with hr|rfl
 ·exact h.one r hr
 ·exact⟨ho,fun d hq=>(h.one p (List.mem_of_getElem? hp)).2 d (hd d hq)⟩
theorem ztsum_bd:∀ {ps:List Zp},(∀ p∈ps,p.1.own.size<=2000∧∀ d∈p.1.da,d.size<=3200)->zsum ps<=2000*ps.length+3201*cntS (ps.map (·.1))
 |[],_=>Nat.zero_le _
 |p::ps,h=>by
  have h1:=ztsum_bd (ps:=ps) (fun x hx=>h x (List.mem_cons_of_mem _ hx));have h2:=h p (List.mem_cons_self ..);have h3:=ssum_bd h2.2;have h4:=h2.1;simp only [zsum,zs1,List.length_cons,List.map_cons,cntS,List.sum_cons,Nat.mul_add] at h1 ⊢;omega
theorem ZT.zl{ps:List Zp}{N:Nat}(h:ZT ps N)(hN:N<=200):ZL ps:=by
 have h1:=ztsum_bd h.one;have h2:=h.len;have h3:=h.cnt;refine⟨by omega,by omega,fun p hp=>⟨by have:=(h.one p hp).1;omega,by have:=cnt_mem hp;omega,fun d hd=>by have:=(h.one p hp).2 d hd;omega⟩⟩
theorem ZB.twice{ps:List Zp}{N:Nat}{p:Zp}(h:ZB ps N)(hp:p∈ps)(hN:N<=126):ZL (ps++[p]):=by
 have h0:∀ q∈ps++[p],ZS q.1:=fun q hq=>by
  rcases List.mem_append.1 hq with hq|hq
  ·exact h.one q hq
  ·rw [List.mem_singleton.1 hq];exact h.one p hp
 have h1:=zsum_bd h0;have h2:=h.len;have h3:=h.cnt;have h4:=cnt_mem hp;have h5:cntS ((ps++[p]).map (·.1))=cntS (ps.map (·.1))+p.1.da.length:=by rw [List.map_append,cnt_app];simp [cntS]
 have h6:(ps++[p]).length=ps.length+1:=by simp
 rw [h5,h6] at h1;refine⟨by omega,by omega,fun q hq=>⟨by have:=(h0 q hq).1;omega,?_,fun d hd=>by have:=(h0 q hq).2 d hd;omega⟩⟩
 rcases List.mem_append.1 hq with hq|hq
 ·have:=cnt_mem hq;omega
 ·rw [List.mem_singleton.1 hq];omega
theorem bz_drawn{list:List Rr}{ap:ByteArray}{w w':World}{e:Ending}{C N:Nat}(h:BzPost list ap w e w')(hz:∀ r∈list,ZR r)(hl:list.length<=N)(ha:ap.size<=20)(hC:C<=w.heap.size):
 Below w.heap.size w w'∧∃ (o:ByteArray) (v:Value) (ps:List Zp) (c i:Int),e=.returned (.tuple #[.agg #[.string o,v],.int .i64 c,.int .i64 i])∧o.size<=20∧Hid (ZB ps N∧(c=0->0<ps.length∧o=ap)∧((bldE list ap).1=0->c=0))∧ZOwn w' C v ps:=by
 obtain⟨hb,h1,h2⟩:=h;refine⟨hb,?_⟩
 by_cases hc:(bldE list ap).1=0
 ·obtain⟨v,ps,rfl,hp,ho⟩:=h1 hc;exact⟨ap,v,ps,0,0,rfl,ha,⟨bld_zb hz hl hp,fun _=>⟨by have h3:=congrArg List.length hp;rw [List.length_map] at h3;rw [h3];exact bld_pos hc,rfl⟩,fun _=>rfl⟩,ho.base hC⟩
 ·exact⟨_,_,[],_,_,h2 hc,by decide,⟨zb_nil N,fun h=>absurd h hc,fun h=>absurd h hc⟩,ZOwn.nil _ _⟩
end Go.Proofs.YtfmolgdfjklmpaaGreat
