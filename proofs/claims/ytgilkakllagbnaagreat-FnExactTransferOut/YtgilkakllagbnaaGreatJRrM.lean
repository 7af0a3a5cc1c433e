import Derived.Test.YtgilkakllagbnaaGreatJMath
import Derived.Deep.RegionHeld
import Derived.Test.YtgilkakllagbnaaGreatRows
import Derived.WalkSpells
import Derived.WalkLawsBesides
import Derived.RegionTactic
import Derived.ChangeAlike
import Derived.BigRegion
import Derived.BigQuiet
import Derived.Deep.QuietTactic
namespace Go.Proofs.YtgilkakllagbnaaGreat
open Go.RowKit
set_option linter.unusedVariables false
structure Rr where
 own:ByteArray
 ty:Int
 cl:Int
 tt:Int
 da:ByteArray
def rvV(r:Rr):List Value:=[.string r.own,.int .i64 r.ty,.int .i64 r.cl,.int .i64 r.tt,.string r.da]
def rvVs(xs:List Rr):List Value:=xs.flatMap rvV
theorem rvVs_cons(x:Rr)(xs:List Rr):rvVs (x::xs)=rvV x++rvVs xs:=by simp [rvVs]
theorem rvVs_app(a b:List Rr):rvVs (a++b)=rvVs a++rvVs b:=by simp [rvVs]
theorem rvVs_len(xs:List Rr):(rvVs xs).length=xs.length*5:=by
 induction xs with
 |nil=>rfl
 |cons x xs ih=>
  have:(rvV x).length=5:=rfl;rw [rvVs_cons,List.length_append,ih,List.length_cons,this];omega
theorem rvVs_at:∀ (xs:List Rr) (k j:Nat) (x:Rr),xs[k]? =some x->j<5->(rvVs xs)[k*5+j]? =(rvV x)[j]? :=by
 intro xs
 induction xs with
 |nil=>intro k j x h;simp at h
 |cons y xs ih=>
  intro k j x h hj;have hl:(rvV y).length=5:=rfl
  cases k with
  |zero=>
   simp at h;subst h
   rw [rvVs_cons,Nat.zero_mul,Nat.zero_add,List.getElem?_append_left (by omega)]
  |succ k=>
   simp at h;rw [rvVs_cons,List.getElem?_append_right (by omega),hl,show(k+1)*5+j-5=k*5+j by omega];exact ih k j x h hj
theorem rv_cells{w:World}{xs:List Rr}{b off k:Nat}{x:Rr}(hc:∀ (i:Nat) (y:Value),(rvVs xs)[i]? =some y->w.cell? ⟨b,off+i,none⟩=some y)(h:xs[k]? =some x):
 w.cell? ⟨b,off+k*5,none⟩=some (.string x.own)∧w.cell? ⟨b,off+k*5+1,none⟩=some (.int .i64 x.ty)∧w.cell? ⟨b,off+k*5+2,none⟩=some (.int .i64 x.cl)∧w.cell? ⟨b,off+k*5+3,none⟩=some (.int .i64 x.tt)∧w.cell? ⟨b,off+k*5+4,none⟩=some (.string x.da):=
 ⟨hc (k*5) _ ((rvVs_at xs k 0 x h (by decide)).trans rfl),hc (k*5+1) _ ((rvVs_at xs k 1 x h (by decide)).trans rfl),hc (k*5+2) _ ((rvVs_at xs k 2 x h (by decide)).trans rfl),hc (k*5+3) _ ((rvVs_at xs k 3 x h (by decide)).trans rfl),hc (k*5+4) _ ((rvVs_at xs k 4 x h (by decide)).trans rfl)⟩
def rsum:List Rr->Nat
 |[]=>0
 |x::xs=>x.own.size+x.da.size+rsum xs
theorem rsum_step:∀ (xs:List Rr) (k:Nat) (x:Rr),xs[k]? =some x->rsum (xs.take (k+1))=rsum (xs.take k)+(x.own.size+x.da.size):=by
 intro xs
 induction xs with
 |nil=>intro k x h;simp at h
 |cons y xs ih=>
  intro k x h
  cases k with
  |zero=>simp at h;subst h;simp [rsum]
  |succ k=>
   simp at h;have:=ih k x h;simp only [List.take_succ_cons,rsum];omega
theorem rsum_take_le:∀ (xs:List Rr) (k:Nat),rsum (xs.take k)<=rsum xs:=by
 intro xs
 induction xs with
 |nil=>intro k;simp [rsum]
 |cons y xs ih=>
  intro k
  cases k with
  |zero=>simp [rsum]
  |succ k=>have:=ih k;simp only [List.take_succ_cons,rsum];omega
theorem rsum_mem:∀ (xs:List Rr) (x:Rr),x∈xs->x.own.size+x.da.size<=rsum xs:=by
 intro xs
 induction xs with
 |nil=>intro x h;simp at h
 |cons y xs ih=>
  intro x h
  rcases List.mem_cons.1 h with rfl|h
  ·simp only [rsum];omega
  ·have:=ih x h;simp only [rsum];omega
def szRS(xs:List Rr)(L:Int):Int:=if(xs.length:Int)+(rsum xs:Int)<=L then L-xs.length-rsum xs else -1
theorem Tryz.infoRRc:(Tryz.prog.info? 56).map (fun i=>(i.zero,i.size,i.bytes))=some (some (.agg #[.string ByteArray.empty,.int .i64 0,.int .i64 0,.int .i64 0,.string ByteArray.empty]),5,56):=by kernel_rfl
structure Only (p:Nat) (w w':World):Prop where
 os:w'.os=w.os
 tape:w'.tape=w.tape
 output:w'.output=w.output
 size:w.heap.size<=w'.heap.size
 block:∀ k,k<w.heap.size->k≠p->w'.heap[k]? =w.heap[k]?
theorem Only.refl(p:Nat)(w:World):Only p w w:=⟨rfl,rfl,rfl,Nat.le_refl _,fun _ _ _=>rfl⟩
theorem Only.drew{p:Nat}{w w':World}(h:Only p w w'):Only p w w'.drew:=⟨h.os,h.tape,h.output,h.size,h.block⟩
theorem Only.set{p i:Nat}{w w':World}{v:Value}(h:Only p w w'):Only p w (w'.setCell ⟨p,i,none⟩ v):=by
 have h1:=(Below.refl 0 w').setCell (p:=⟨p,i,none⟩) (Nat.zero_le _) v;refine⟨h1.os.trans h.os,h1.tape.trans h.tape,h1.output.trans h.output,Nat.le_trans h.size h1.size,fun k hk hp=>?_⟩;rw [Below.heap_setCell _ _ _ _ hp];exact h.block k hk hp
end Go.Proofs.YtgilkakllagbnaaGreat
namespace Go.Proofs.YtgilkakllagbnaaGreat
open Go
section
variable {P:Program}{ops:Array Oper}{Q:Exit->Act->World->Prop}{md:Region.Mode}{S:World->Prop}{L:Nat}
def wpAnyL(P:Program)(md:Region.Mode)(ops:Array Oper)(Q:Exit->Act->World->Prop)(S:World->Prop)(L:Nat):Nat->Array Bool->Act->World->Prop
 |0,listed,a,w=>Region.ready md ops listed=[]∧Q .normal a w
 |fuel+1,listed,a,w=>
  (Region.ready md ops listed=[]->Q .normal a w)∧
  ∀ i∈Region.ready md ops listed,wpOp P ops Q i (fun a' w'=>(i=L∨S w')∧wpAnyL P md ops Q S L fuel (listed.setIfInBounds i true) a' w') a w
theorem wpAny_of_last:∀ (fuel:Nat) (listed:Array Bool) (a:Act) (w:World),wpAnyL P md ops Q S L fuel listed a w->wpAny P md ops Q fuel listed a w
 |0,_,_,_,h=>h
 |fuel+1,_,_,_,h=>⟨h.1,fun i hi=>wpOp_mono (fun a' w' h'=>wpAny_of_last fuel _ a' w' h'.2) (h.2 i hi)⟩
def waitsFor(md:Region.Mode)(ops:Array Oper)(L i:Nat):Bool:=match ops[L]? with
 |some o=>o.after.any (fun e=>Region.binds md e&&e.on==i)
 |none=>true
theorem ready_free{listed:Array Bool}{i j:Nat}{oj:Oper}(hi:i∈Region.ready md ops listed)(hj:j∈Region.ready md ops listed)(ho:ops[j]? =some oj):∀ e∈oj.after,Region.binds md e=true->e.on≠i:=by
 rintro e he hb rfl;obtain⟨_,o,ho2,hall⟩:=mem_ready.1 hj;obtain rfl:oj=o:=Option.some.inj (ho.symm.trans ho2);have h1:=hall e he hb;have h0:=(mem_ready.1 hi).1;rw [Array.getD_eq_getD_getElem?] at h0 h1
 cases hx:listed[e.on]? with
 |none=>rw [hx] at h1;cases h1
 |some b=>rw [hx] at h0 h1;simp only [Option.getD_some] at h0 h1;rw [h0] at h1;cases h1
theorem last_waits{listed:Array Bool}{i j:Nat}(hL:waitsFor md ops L i=true)(hi:i∈Region.ready md ops listed)(hj:j∈Region.ready md ops listed):j≠L:=by
 rintro rfl;obtain⟨_,o,ho,_⟩:=mem_ready.1 hj;rw [waitsFor,ho] at hL;simp only [Array.any_eq_true',Bool.and_eq_true,beq_iff_eq] at hL;obtain⟨e,he,hb,h⟩:=hL;exact ready_free hi hj ho e he hb h
def Untouched(md:Region.Mode)(ops:Array Oper)(oi:Oper)(i:Nat)(listed:Array Bool):Prop:=∀ j oj,ops[j]? =some oj->j≠i->listed.getD j true=false->(∀ e∈oj.after,Region.binds md e=true->e.on≠i)->oi.apart ops oj=true
theorem Untouched.more{oi:Oper}{i j:Nat}{listed:Array Bool}(h:Untouched md ops oi i listed)(hj:listed.getD j true=false):Untouched md ops oi i (listed.setIfInBounds j true):=by
 intro k ok hk hki hun;refine h k ok hk hki ?_
 rcases Nat.decEq j k with hne|rfl
 ·rw [getD_set_ne true hne] at hun;exact hun
 ·exact hj
theorem wpAnyL_first{i:Nat}{oi:Oper}{v:Value}(hi:ops[i]? =some oi)(hsel:∀ (j:Nat) (o:Oper) cs b,ops[j]? =some o->o.op≠ .select cs b)
 (hQ:∀ c a w,Q (.panic c) (a.put oi.dst v) w->Q (.panic c) a w) (hL:waitsFor md ops L i=true) (fuel:Nat):
 ∀ (listed:Array Bool) (a:Act) (w:World),Untouched md ops oi i listed->i∈Region.ready md ops listed->YieldsIf P ops S oi v a->S w->
   wpAnyL P md ops Q S L fuel (listed.setIfInBounds i true) (a.put oi.dst v) w->wpAnyL P md ops Q S L (fuel+1) listed a w:=by
 induction fuel with
 |zero=>
  intro listed a w _ hr hy hS H;refine⟨fun h=>absurd (h▸hr) (by simp),fun j hj=>?_⟩
  rcases Nat.decEq j i with hne|rfl
  ·exact absurd (H.1▸ready_mono hj hne) (by simp)
  ·exact hy.wpOp hi hS ⟨.inr hS,H⟩
 |succ fuel ih=>
  intro listed a w hun hr hy hS H;refine⟨fun h=>absurd (h▸hr) (by simp),fun j hj=>?_⟩
  rcases Nat.decEq j i with hne|rfl
  ·obtain⟨hju,oj,hoj,_⟩:=mem_ready.1 hj;have hstep:=wpOp_putIf hoj (hun j oj hoj hne hju (ready_free hr hj hoj)) (fun cs b=>hsel i oi cs b hi) (fun cs b=>hsel j oj cs b hoj) hQ hy (H.2 j (ready_mono hj hne));refine wpOp_mono (fun a' w' ⟨hy',hS',hW⟩=>?_) hstep;have hSw:=hS'.resolve_left (last_waits hL hr hj);exact⟨.inr hSw,ih _ a' w' (hun.more hju) (ready_mono hr (Ne.symm hne)) hy' hSw (by rw [Array.setIfInBounds_comm _ _ hne];exact hW)⟩
  ·exact hy.wpOp hi hS ⟨.inr hS,H⟩
theorem wpAnyL_take{i:Nat}{oi:Oper}{v:Value}{fuel:Nat}{listed:Array Bool}{a:Act}{w:World}(hi:ops[i]? =some oi)
 (hs:Region.noSelect ops=true) (hf:Region.free md ops listed i=true) (hr:(Region.ready md ops listed).contains i=true) (hL:waitsFor md ops L i=true)
 (hQ:∀ c a w,Q (.panic c) (a.put oi.dst v) w->Q (.panic c) a w) (hy:YieldsIf P ops S oi v a) (hS:S w)
 (h:wpAnyL P md ops Q S L fuel (listed.setIfInBounds i true) (a.put oi.dst v) w):wpAnyL P md ops Q S L (fuel+1) listed a w:=
 wpAnyL_first hi (Region.noSelect_spec hs) hQ hL fuel listed a w (Region.free_spec hi hf) (by simpa using hr) hy hS h
theorem tkL{i:Nat}{oi:Oper}{v:Value}{fuel:Nat}{listed:Array Bool}{a:Act}{w:World}(hi:ops[i]? =some oi)
 (hy:∀ w,S w->(execOp a.eval oi).run P w=.ok (.value v) w) (h:wpAnyL P md ops Q S L fuel (listed.setIfInBounds i true) (a.put oi.dst v) w)
 (hs:Region.noSelect ops=true:=by kernel_rfl) (hf:Region.free md ops listed i=true:=by kernel_rfl) (hr:(Region.ready md ops listed).contains i=true:=by kernel_rfl) (hL:waitsFor md ops L i=true:=by kernel_rfl)
 (hQ:∀ c a w,Q (.panic c) (a.put oi.dst v) w->Q (.panic c) a w:=by exact fun _ _ _ h=>h) (hw:Region.wanted oi (yielded ops a.tmps)=true:=by rfl) (hS:S w:=by assumption):wpAnyL P md ops Q S L (fuel+1) listed a w:=
 wpAnyL_take hi hs hf hr hL hQ (Or.inl ⟨hw,hy⟩) hS h
theorem tkA(i:Nat){oi:Oper}{v:Value}{fuel:Nat}{listed:Array Bool}{a:Act}{w:World}(hi:ops[i]? =some oi)
 (h:wpAnyL P md ops Q S L fuel (listed.setIfInBounds i true) (a.put oi.dst v) w) (hy:∀ w,S w->(execOp a.eval oi).run P w=.ok (.value v) w:=by intro w hSw;go_simp;try (with_reducible rfl))
 (hs:Region.noSelect ops=true:=by kernel_rfl) (hf:Region.free md ops listed i=true:=by kernel_rfl) (hr:(Region.ready md ops listed).contains i=true:=by kernel_rfl) (hL:waitsFor md ops L i=true:=by kernel_rfl)
 (hQ:∀ c a w,Q (.panic c) (a.put oi.dst v) w->Q (.panic c) a w:=by exact fun _ _ _ h=>h) (hw:Region.wanted oi (yielded ops a.tmps)=true:=by rfl) (hS:S w:=by assumption):wpAnyL P md ops Q S L (fuel+1) listed a w:=
 wpAnyL_take hi hs hf hr hL hQ (Or.inl ⟨hw,hy⟩) hS h
theorem tkB(i:Nat){oi:Oper}{v:Value}{fuel:Nat}{listed:Array Bool}{a:Act}{w:World}(hi:ops[i]? =some oi)
 (h:wpAnyL P md ops Q S L fuel (listed.setIfInBounds i true) (a.put oi.dst v) w) (hy:∀ w,S w->(execOp a.eval oi).run P w=.ok (.value v) w:=by intro w hSw;obtain⟨s0,s1⟩:=hSw;go_simp;try (with_reducible rfl))
 (hs:Region.noSelect ops=true:=by kernel_rfl) (hf:Region.free md ops listed i=true:=by kernel_rfl) (hr:(Region.ready md ops listed).contains i=true:=by kernel_rfl) (hL:waitsFor md ops L i=true:=by kernel_rfl)
 (hQ:∀ c a w,Q (.panic c) (a.put oi.dst v) w->Q (.panic c) a w:=by exact fun _ _ _ h=>h) (hw:Region.wanted oi (yielded ops a.tmps)=true:=by rfl) (hS:S w:=by assumption):wpAnyL P md ops Q S L (fuel+1) listed a w:=
 wpAnyL_take hi hs hf hr hL hQ (Or.inl ⟨hw,hy⟩) hS h
theorem tkC(i:Nat){oi:Oper}{v:Value}{fuel:Nat}{listed:Array Bool}{a:Act}{w:World}(hi:ops[i]? =some oi)
 (h:wpAnyL P md ops Q S L fuel (listed.setIfInBounds i true) (a.put oi.dst v) w) (hy:∀ w,S w->(execOp a.eval oi).run P w=.ok (.value v) w:=by intro w hSw;obtain⟨s0,s1,s2⟩:=hSw;go_simp;try (with_reducible rfl))
 (hs:Region.noSelect ops=true:=by kernel_rfl) (hf:Region.free md ops listed i=true:=by kernel_rfl) (hr:(Region.ready md ops listed).contains i=true:=by kernel_rfl) (hL:waitsFor md ops L i=true:=by kernel_rfl)
 (hQ:∀ c a w,Q (.panic c) (a.put oi.dst v) w->Q (.panic c) a w:=by exact fun _ _ _ h=>h) (hw:Region.wanted oi (yielded ops a.tmps)=true:=by rfl) (hS:S w:=by assumption):wpAnyL P md ops Q S L (fuel+1) listed a w:=
 wpAnyL_take hi hs hf hr hL hQ (Or.inl ⟨hw,hy⟩) hS h
theorem tkD(i:Nat){oi:Oper}{v:Value}{fuel:Nat}{listed:Array Bool}{a:Act}{w:World}(hi:ops[i]? =some oi)
 (h:wpAnyL P md ops Q S L fuel (listed.setIfInBounds i true) (a.put oi.dst v) w) (hy:∀ w,S w->(execOp a.eval oi).run P w=.ok (.value v) w:=by intro w hSw;obtain⟨s0,s1,s2,s3⟩:=hSw;go_simp;try (with_reducible rfl))
 (hs:Region.noSelect ops=true:=by kernel_rfl) (hf:Region.free md ops listed i=true:=by kernel_rfl) (hr:(Region.ready md ops listed).contains i=true:=by kernel_rfl) (hL:waitsFor md ops L i=true:=by kernel_rfl)
 (hQ:∀ c a w,Q (.panic c) (a.put oi.dst v) w->Q (.panic c) a w:=by exact fun _ _ _ h=>h) (hw:Region.wanted oi (yielded ops a.tmps)=true:=by rfl) (hS:S w:=by assumption):wpAnyL P md ops Q S L (fuel+1) listed a w:=
 wpAnyL_take hi hs hf hr hL hQ (Or.inl ⟨hw,hy⟩) hS h
theorem wpAnyL_one{i:Nat}{o:Oper}{fuel:Nat}{listed:Array Bool}{a:Act}{w:World}(hr:Region.ready md ops listed=[i])(ho:ops[i]? =some o)
 (h:∀ K':Act->World->Prop,Shut (∀ a w,S w->(S w->wpAnyL P md ops Q S L fuel (listed.setIfInBounds i true) a w)->K' a w)->if Region.wanted o (yielded ops a.tmps)=true then Oper.wp P o a w K' Q else K' (a.put o.dst undef) w):
 wpAnyL P md ops Q S L (fuel+1) listed a w:=by
 refine⟨fun h0=>(by rw [hr] at h0;cases h0),fun j hj=>?_⟩;rw [hr] at hj;obtain rfl:j=i:=by simpa using hj
 exact wpOp_step ho (fun K' hK=>h K' (fun a w hS hW=>hK a w ⟨.inr hS,hW hS⟩))
theorem wpAnyL_end{o:Oper}{fuel:Nat}{listed:Array Bool}{a:Act}{w:World}(hr:Region.ready md ops listed=[L])(ho:ops[L]? =some o)(he:Region.ready md ops (listed.setIfInBounds L true)=[])
 (h:∀ K':Act->World->Prop,Shut (∀ a w,Q .normal a w->K' a w)->if Region.wanted o (yielded ops a.tmps)=true then Oper.wp P o a w K' Q else K' (a.put o.dst undef) w):
 wpAnyL P md ops Q S L (fuel+1) listed a w:=by
 refine⟨fun h0=>(by rw [hr] at h0;cases h0),fun j hj=>?_⟩;rw [hr] at hj;obtain rfl:j=L:=by simpa using hj
 refine wpOp_step ho (fun K' hK=>h K' (fun a w hq=>hK a w ⟨.inl rfl,?_⟩))
 cases fuel with
 |zero=>exact⟨he,hq⟩
 |succ n=>exact⟨fun _=>hq,by rw [he];intro i hi;cases hi⟩
theorem wp_region_last{id:Nat}{a:Act}{w:World}(S:World->Prop)(L:Nat)(hm:P.follows .mixedOrders=true)(hS:S w.drew)
 (h:S w.drew->wpAnyL P .any ops Q S L ops.size (Array.replicate ops.size false) a w.drew):(Code.region id ops true).wp P Q a w:=
 wp_region_any hm (wpAny_of_last _ _ _ _ (h hS))
end
end Go.Proofs.YtgilkakllagbnaaGreat
namespace Go.Proofs.YtgilkakllagbnaaGreat
open Go
section
variable {P:Program}{ops:Array Oper}{Q:Exit->Act->World->Prop}{md:Region.Mode}{S:World->Prop}{L:Nat}
theorem wpAnyL_done{fuel:Nat}{listed:Array Bool}{a:Act}{w:World}(hr:Region.ready md ops listed=[])(hq:Q .normal a w):wpAnyL P md ops Q S L fuel listed a w:=by
 cases fuel with
 |zero=>exact⟨hr,hq⟩
 |succ n=>exact⟨fun _=>hq,by rw [hr];intro i hi;cases hi⟩
theorem wpAnyL_two{i j:Nat}{o o':Oper}{fuel:Nat}{listed:Array Bool}{a:Act}{w:World}(hr:Region.ready md ops listed=[i,j])(ho:ops[i]? =some o)(ho':ops[j]? =some o')
 (h:∀ K':Act->World->Prop,Shut (∀ a w,S w->(S w->wpAnyL P md ops Q S L fuel (listed.setIfInBounds i true) a w)->K' a w)->if Region.wanted o (yielded ops a.tmps)=true then Oper.wp P o a w K' Q else K' (a.put o.dst undef) w)
 (h':∀ K':Act->World->Prop,Shut (∀ a w,S w->(S w->wpAnyL P md ops Q S L fuel (listed.setIfInBounds j true) a w)->K' a w)->if Region.wanted o' (yielded ops a.tmps)=true then Oper.wp P o' a w K' Q else K' (a.put o'.dst undef) w):
 wpAnyL P md ops Q S L (fuel+1) listed a w:=by
 refine⟨fun h0=>(by rw [hr] at h0;cases h0),fun k hk=>?_⟩;rw [hr] at hk
 rcases(show k=i∨k=j by simpa using hk) with rfl|rfl
 ·exact wpOp_step ho (fun K' hK=>h K' (fun a w hS hW=>hK a w ⟨.inr hS,hW hS⟩))
 ·exact wpOp_step ho' (fun K' hK=>h' K' (fun a w hS hW=>hK a w ⟨.inr hS,hW hS⟩))
end
end Go.Proofs.YtgilkakllagbnaaGreat
namespace Go.Proofs.YtgilkakllagbnaaGreat
open Go
section
variable {P:Program}{ops:Array Oper}{Q:Exit->Act->World->Prop}{md:Region.Mode}{S:World->Prop}{Ls:List Nat}
def wpAnyS(P:Program)(md:Region.Mode)(ops:Array Oper)(Q:Exit->Act->World->Prop)(S:World->Prop)(Ls:List Nat):Nat->Array Bool->Act->World->Prop
 |0,listed,a,w=>Region.ready md ops listed=[]∧Q .normal a w
 |fuel+1,listed,a,w=>
  (Region.ready md ops listed=[]->Q .normal a w)∧
  ∀ i∈Region.ready md ops listed,wpOp P ops Q i (fun a' w'=>(i∈Ls∨S w')∧wpAnyS P md ops Q S Ls fuel (listed.setIfInBounds i true) a' w') a w
theorem wpAny_of_S:∀ (fuel:Nat) (listed:Array Bool) (a:Act) (w:World),wpAnyS P md ops Q S Ls fuel listed a w->wpAny P md ops Q fuel listed a w
 |0,_,_,_,h=>h
 |fuel+1,_,_,_,h=>⟨h.1,fun i hi=>wpOp_mono (fun a' w' h'=>wpAny_of_S fuel _ a' w' h'.2) (h.2 i hi)⟩
theorem late_waits{listed:Array Bool}{i j:Nat}(hL:Ls.all (fun L=>waitsFor md ops L i)=true)(hi:i∈Region.ready md ops listed)(hj:j∈Region.ready md ops listed):j∉Ls:=fun h=>last_waits (List.all_eq_true.1 hL j h) hi hj rfl
theorem wpAnyS_first{i:Nat}{oi:Oper}{v:Value}(hi:ops[i]? =some oi)(hsel:∀ (j:Nat) (o:Oper) cs b,ops[j]? =some o->o.op≠ .select cs b)
 (hQ:∀ c a w,Q (.panic c) (a.put oi.dst v) w->Q (.panic c) a w) (hL:Ls.all (fun L=>waitsFor md ops L i)=true) (fuel:Nat):
 ∀ (listed:Array Bool) (a:Act) (w:World),Untouched md ops oi i listed->i∈Region.ready md ops listed->YieldsIf P ops S oi v a->S w->
   wpAnyS P md ops Q S Ls fuel (listed.setIfInBounds i true) (a.put oi.dst v) w->wpAnyS P md ops Q S Ls (fuel+1) listed a w:=by
 induction fuel with
 |zero=>
  intro listed a w _ hr hy hS H;refine⟨fun h=>absurd (h▸hr) (by simp),fun j hj=>?_⟩
  rcases Nat.decEq j i with hne|rfl
  ·exact absurd (H.1▸ready_mono hj hne) (by simp)
  ·exact hy.wpOp hi hS ⟨.inr hS,H⟩
 |succ fuel ih=>
  intro listed a w hun hr hy hS H;refine⟨fun h=>absurd (h▸hr) (by simp),fun j hj=>?_⟩
  rcases Nat.decEq j i with hne|rfl
  ·obtain⟨hju,oj,hoj,_⟩:=mem_ready.1 hj;have hstep:=wpOp_putIf hoj (hun j oj hoj hne hju (ready_free hr hj hoj)) (fun cs b=>hsel i oi cs b hi) (fun cs b=>hsel j oj cs b hoj) hQ hy (H.2 j (ready_mono hj hne));refine wpOp_mono (fun a' w' ⟨hy',hS',hW⟩=>?_) hstep;have hSw:=hS'.resolve_left (late_waits hL hr hj);exact⟨.inr hSw,ih _ a' w' (hun.more hju) (ready_mono hr (Ne.symm hne)) hy' hSw (by rw [Array.setIfInBounds_comm _ _ hne];exact hW)⟩
  ·exact hy.wpOp hi hS ⟨.inr hS,H⟩
theorem wpAnyS_take{i:Nat}{oi:Oper}{v:Value}{fuel:Nat}{listed:Array Bool}{a:Act}{w:World}(hi:ops[i]? =some oi)
 (hs:Region.noSelect ops=true) (hf:Region.free md ops listed i=true) (hr:(Region.ready md ops listed).contains i=true) (hL:Ls.all (fun L=>waitsFor md ops L i)=true)
 (hQ:∀ c a w,Q (.panic c) (a.put oi.dst v) w->Q (.panic c) a w) (hy:YieldsIf P ops S oi v a) (hS:S w)
 (h:wpAnyS P md ops Q S Ls fuel (listed.setIfInBounds i true) (a.put oi.dst v) w):wpAnyS P md ops Q S Ls (fuel+1) listed a w:=
 wpAnyS_first hi (Region.noSelect_spec hs) hQ hL fuel listed a w (Region.free_spec hi hf) (by simpa using hr) hy hS h
theorem wpAnyS_one{i:Nat}{o:Oper}{fuel:Nat}{listed:Array Bool}{a:Act}{w:World}(hr:Region.ready md ops listed=[i])(ho:ops[i]? =some o)
 (h:∀ K':Act->World->Prop,Shut (∀ a w,S w->(S w->wpAnyS P md ops Q S Ls fuel (listed.setIfInBounds i true) a w)->K' a w)->if Region.wanted o (yielded ops a.tmps)=true then Oper.wp P o a w K' Q else K' (a.put o.dst undef) w):
 wpAnyS P md ops Q S Ls (fuel+1) listed a w:=by
 refine⟨fun h0=>(by rw [hr] at h0;cases h0),fun j hj=>?_⟩;rw [hr] at hj;obtain rfl:j=i:=by simpa using hj
 exact wpOp_step ho (fun K' hK=>h K' (fun a w hS hW=>hK a w ⟨.inr hS,hW hS⟩))
theorem wpAnyS_late{i:Nat}{o:Oper}{fuel:Nat}{listed:Array Bool}{a:Act}{w:World}(hr:Region.ready md ops listed=[i])(ho:ops[i]? =some o)(hl:Ls.contains i=true)
 (h:∀ K':Act->World->Prop,Shut (∀ a w,wpAnyS P md ops Q S Ls fuel (listed.setIfInBounds i true) a w->K' a w)->if Region.wanted o (yielded ops a.tmps)=true then Oper.wp P o a w K' Q else K' (a.put o.dst undef) w):
 wpAnyS P md ops Q S Ls (fuel+1) listed a w:=by
 refine⟨fun h0=>(by rw [hr] at h0;cases h0),fun j hj=>?_⟩;rw [hr] at hj;obtain rfl:j=i:=by simpa using hj
 exact wpOp_step ho (fun K' hK=>h K' (fun a w hW=>hK a w ⟨.inl (by simpa using hl),hW⟩))
theorem wpAnyS_done{fuel:Nat}{listed:Array Bool}{a:Act}{w:World}(hr:Region.ready md ops listed=[])(hq:Q .normal a w):wpAnyS P md ops Q S Ls fuel listed a w:=by
 cases fuel with
 |zero=>exact⟨hr,hq⟩
 |succ n=>exact⟨fun _=>hq,by rw [hr];intro i hi;cases hi⟩
theorem wp_region_S{id:Nat}{a:Act}{w:World}(S:World->Prop)(Ls:List Nat)(hm:P.follows .mixedOrders=true)(hS:S w.drew)
 (h:S w.drew->wpAnyS P .any ops Q S Ls ops.size (Array.replicate ops.size false) a w.drew):(Code.region id ops true).wp P Q a w:=
 wp_region_any hm (wpAny_of_S _ _ _ _ (h hS))
end
end Go.Proofs.YtgilkakllagbnaaGreat
namespace Go.Proofs.YtgilkakllagbnaaGreat
open Go.RowKit
set_option maxRecDepth 100000 in
set_option maxHeartbeats 400000 in
theorem l02Num_any(s:ByteArray)(w:World)(hs:s.size<=6):
 Calls Tryz.prog 107 #[.string s] w fun e w'=>e=.returned (.int .i64 (numL s.data.toList))∧w'=w:=by
 go_enter Tryz.func107,Tryz.ntmps107;go_wp2
 go_loop [3,4] (fun u v=>∃ k:Nat,k<=s.size∧v=.int .i64 k∧u=.int .i64 (numL (s.data.toList.take k))) (fun _ v=>s.size-(intOf v).toNat)
 case atStart=>exact⟨0,Nat.zero_le _,rfl,rfl⟩
 case round=>
  obtain⟨k,hk,rfl,rfl⟩:=hrel
  by_cases hlt:k<s.size
  ·have hd:=Nm.get_data hlt;have e1:s.data.toList.take (k+1)=s.data.toList.take k++[s[k]]:=Nm.take_step hd;have hb:=numL_small (l:=s.data.toList.take k) (by simp;omega);have e2:=numL_snoc (s.data.toList.take k) s[k];rw [<- e1] at e2;have hc:(s[k].toNat:Int)<256:=by have:=s[k].toNat_lt;omega
   have hlt':(k:Int)<(s.size:Int):=by omega
   generalize numL (s.data.toList.take k)=m at*;clear e1 hd;go_wp2
   go_round
   case rel=>exact⟨k+1,by omega,by go_num,by rw [e2];go_num⟩
   case measure=>simp [intOf];omega
  ·have hke:k=s.size:=by omega
   subst hke;have et:s.data.toList.take s.size=s.data.toList:=List.take_of_length_le (by simp);rw [et];go_wp2;go_ret;exact⟨rfl,rfl⟩
end Go.Proofs.YtgilkakllagbnaaGreat
namespace Go.Proofs.YtgilkakllagbnaaGreat
open Go.RowKit
def num4(a b c d:UInt8):Nat:=((a.toNat*256+b.toNat)*256+c.toNat)*256+d.toNat
theorem big_step(m:Nat)(c:UInt8)(h:m<281474976710656):bits .or .i64 ((m:Int)*256) (c.toNat:Int)=((m*256+c.toNat:Nat):Int):=by
 have hc:=c.toNat_lt;have e:(m:Int)*256=((2 ^ 8*m:Nat):Int):=by omega
 rw [e,or_join 8 m _ (by omega) (by omega)];congr 1;omega
set_option maxRecDepth 100000 in
set_option maxHeartbeats 400000 in
theorem readBig_any(s:ByteArray)(w:World)(hs:s.size<=6):
 Calls Tryz.prog 90 #[.string s] w fun e w'=>e=.returned (.int .i64 (numL s.data.toList))∧w'=w:=by
 go_enter Tryz.func90,Tryz.ntmps90;go_wp2
 go_loop [3,7] (fun u v=>∃ k:Nat,k<=s.size∧v=.int .i64 k∧u=.int .i64 (numL (s.data.toList.take k))) (fun _ v=>s.size-(intOf v).toNat)
 case atStart=>exact⟨0,Nat.zero_le _,rfl,rfl⟩
 case round=>
  obtain⟨k,hk,rfl,rfl⟩:=hrel
  by_cases hlt:k<s.size
  ·have hd:=Nm.get_data hlt;have e1:s.data.toList.take (k+1)=s.data.toList.take k++[s[k]]:=Nm.take_step hd;have hb:=numL_small (l:=s.data.toList.take k) (by simp;omega);have e2:=numL_snoc (s.data.toList.take k) s[k];rw [<- e1] at e2;have hc:(s[k].toNat:Int)<256:=by have:=s[k].toNat_lt;omega
   have hlt':(k:Int)<(s.size:Int):=by omega
   have HB:=Nm.hide (big_step (numL (s.data.toList.take k)) s[k] hb);generalize numL (s.data.toList.take k)=m at*;clear e1 hd;go_wp2
   go_round
   case rel=>exact⟨k+1,by omega,by go_num,by rw [e2,<- HB.out]⟩
   case measure=>simp [intOf];omega
  ·have hke:k=s.size:=by omega
   subst hke;have et:s.data.toList.take s.size=s.data.toList:=List.take_of_length_le (by simp);rw [et];go_wp2;go_ret;exact⟨rfl,rfl⟩
end Go.Proofs.YtgilkakllagbnaaGreat
namespace Go.Proofs.YtgilkakllagbnaaGreat
open Go.RowKit
set_option maxRecDepth 100000 in
set_option maxHeartbeats 400000 in
theorem foldByte_any(c:UInt8)(w:World):
 Calls Tryz.prog 173 #[.int .u8 c.toNat] w fun e w'=>e=.returned (.int .u8 (Nm.low c).toNat)∧w'=w:=by
 have hcl:(c.toNat:Int)<256:=by have:=c.toNat_lt;omega
 by_cases hup:65<=c.toNat∧c.toNat<=90
 ·have HL:=Nm.hide (Nm.low_up hup);have d1:decide ((65:Int)<=(c.toNat:Int))=true:=by simp;omega
  have d2:decide ((c.toNat:Int)<=90)=true:=by simp;omega
  have hb1:(c.toNat:Int)<=90:=by omega
  clear hup;go_enter Tryz.func173,Tryz.ntmps173;go_wp2;go_ret;rw [HL.out];exact⟨rfl,rfl⟩
 ·have HL:=Nm.hide (Nm.low_id hup)
  by_cases hlo:65<=c.toNat
  ·have d1:decide ((65:Int)<=(c.toNat:Int))=true:=by simp;omega
   have d2:decide ((c.toNat:Int)<=90)=false:=by simp;omega
   clear hup;go_enter Tryz.func173,Tryz.ntmps173;go_wp2;go_ret;rw [HL.out];exact⟨rfl,rfl⟩
  ·have d1:decide ((65:Int)<=(c.toNat:Int))=false:=by simp;omega
   clear hup;go_enter Tryz.func173,Tryz.ntmps173;go_wp2;go_ret;rw [HL.out];exact⟨rfl,rfl⟩
end Go.Proofs.YtgilkakllagbnaaGreat
namespace Go.Proofs.YtgilkakllagbnaaGreat
open Go.RowKit
def BRow(w:World)(g:Nat)(l:List UInt8):Prop:=∀ j c,l[j]? =some c->w.cell? ⟨g,j,none⟩=some (.int .u8 c.toNat)∧w.frozen? ⟨g,j,none⟩=false
theorem BRow.set{w:World}{g k:Nat}{l:List UInt8}{d:UInt8}(h:BRow w g l)(hk:k<l.length):BRow (w.setCell ⟨g,k,none⟩ (.int .u8 d.toNat)) g (l.set k d):=by
 intro j c hj;obtain⟨x,hx⟩:∃ x,l[k]? =some x:=⟨_,List.getElem?_eq_getElem hk⟩
 by_cases e:k=j
 ·subst e;rw [List.getElem?_set_self hk] at hj;simp at hj;subst hj;exact⟨World.cell?_setCell_same _ _ _ (h k x hx).1,by rw [World.frozen?_setCell];exact(h k x hx).2⟩
 ·rw [List.getElem?_set_ne e] at hj;refine⟨?_,by rw [World.frozen?_setCell];exact(h j c hj).2⟩;rw [World.cell?_setCell_other w ⟨g,k,none⟩ ⟨g,j,none⟩ _ (by intro h;cases h;exact e rfl)];exact(h j c hj).1
theorem new_bytes(s:ByteArray)(w:World):∃ cap W,s.size<=cap∧(s.size<=maxLen->cap<=maxLen)∧
 (convert 9 108 (.string s)).run Tryz.prog w=.ok (.slice (some ⟨w.heap.size,0,none⟩) s.size cap) W∧BRow W w.heap.size s.data.toList∧Below w.heap.size w W:=by
 refine⟨_,_,grownCap_ge w s.size 0 5,grownCap_le_maxLen w s.size 0 5,run_bytes_of_string w 9 108 5 s Tryz.underlying9 Tryz.underlying108 Tryz.underlying5,?_,?_⟩
 ·intro j c hj
  have hj':j<s.data.size:=by
   have:=(List.getElem?_eq_some_iff.1 hj).1;simpa using this
  have hc:s.data[j]=c:=by
   have:=(List.getElem?_eq_some_iff.1 hj).2;simpa using this
  constructor
  ·have e:=cell_of_row (w.drew.alloc (.cells (bytesRow s (grownCap w s.size 0 5)) 5 ((bytesRow s (grownCap w s.size 0 5)).size,(bytesRow s (grownCap w s.size 0 5)).size+1))) w.heap.size j _ 5 _ (heap_alloc_new w.drew _);rw [e,bytesRow_at s _ j hj',hc]
  ·have e:=World.frozen?_alloc_mark w.drew (bytesRow s (grownCap w s.size 0 5)) 5 (bytesRow s (grownCap w s.size 0 5)).size ((bytesRow s (grownCap w s.size 0 5)).size+1) j;rw [show w.heap.size=w.drew.heap.size from rfl,e];have:s.data.size<=(bytesRow s (grownCap w s.size 0 5)).size:=by simp [bytesRow]
   simp;omega
 ·exact((Below.refl _ w).drew).alloc (Nat.le_refl _) _
end Go.Proofs.YtgilkakllagbnaaGreat
namespace Go.Proofs.YtgilkakllagbnaaGreat
open Go.RowKit
theorem conv_one(n:Int)(W:World):
 (convert 108 9 (.slice (some ⟨W.heap.size,0,none⟩) 1 1)).run Tryz.prog (W.alloc (.cells #[.int .u8 n] 5))=.ok (.string ⟨#[UInt8.ofNat n.toNat]⟩) (W.alloc (.cells #[.int .u8 n] 5)):=by
 rw [run_convert_bytes_string _ 108 9 5 _ _ _ Tryz.underlying108 Tryz.underlying5 Tryz.underlying9];have hl:=run_loadCells_list (P:=Tryz.prog) (W.alloc (.cells #[.int .u8 n] 5)) ⟨W.heap.size,0,none⟩ ([n].map (Value.int .u8)) (fun j v hj=>cell_one_new W (.int .u8 n) 5 j v hj);rw [run_bytesToString _ _ 1 1 [n] hl];rfl
theorem conv_one_drew(n:Int)(W:World):
 (convert 108 9 (.slice (some ⟨W.heap.size,0,none⟩) 1 1)).run Tryz.prog (W.alloc (.cells #[.int .u8 n] 5)).drew=.ok (.string ⟨#[UInt8.ofNat n.toNat]⟩) (W.alloc (.cells #[.int .u8 n] 5)).drew:=
 conv_one n W.drew
theorem ret_str{a b:ByteArray}(h:a=b):Ending.returned (.string a)=.returned (.string b):=by rw [h]
theorem byte_mod(n:Nat):UInt8.ofNat (n % 256)=UInt8.ofNat n:=by
 apply UInt8.toNat_inj.1;simp
theorem ba_ext{a b:ByteArray}(h:a.data.toList=b.data.toList):a=b:=by
 apply ByteArray.ext;exact Array.toList_inj.1 h
theorem size_list(s:ByteArray):s.data.toList.length=s.size:=by simp
end Go.Proofs.YtgilkakllagbnaaGreat
namespace Go.Proofs.YtgilkakllagbnaaGreat
open Go.RowKit
set_option maxRecDepth 100000 in
set_option maxHeartbeats 800000 in
theorem eqStringS_any(v u:Value)(ls:List ByteArray)(w:World)(h:Nm.SRow w v ls)(h':Nm.SRow w u ls)(hlen:ls.length<=1000000000):
 Calls Tryz.prog 93 #[v,u] w fun e w'=>e=.returned (.bool true)∧Below w.heap.size w w':=by
 obtain⟨a,cap,rfl,hcap,hmx,hnl,hc⟩:=h;obtain⟨a',cap',rfl,hcap',hmx',hnl',hc'⟩:=h';have hne:((ls.length:Int) != (ls.length:Int))=false:=by simp
 clear hnl hnl';go_enter Tryz.func93,Tryz.ntmps93;go_wp2
 go_loopw [5] (fun i wr=>∃ k:Nat,k<=ls.length∧i=.int .i64 k∧Below w.heap.size w wr) (fun i _=>ls.length-(intOf i).toNat)
 case atStart=>exact⟨0,Nat.zero_le _,rfl,Below.refl _ _⟩
 case round=>
  obtain⟨k,hk,rfl,hbel⟩:=hrel
  by_cases hlt:k<ls.length
  ·obtain⟨x,hx⟩:∃ x,ls[k]? =some x:=⟨_,List.getElem?_eq_getElem hlt⟩;have hls:ls≠[]:=by intro h;rw [h] at hlt;simp at hlt
   obtain⟨b,off,rfl,hcell⟩:=hc hls;obtain⟨b',off',rfl,hcell'⟩:=hc' hls;have hcx:wr.cell? ⟨b,off+k,none⟩=some (.string x):=(hbel.cell (World.block_lt_of_cell? w _ (hcell k x hx))).trans (hcell k x hx);have hcx':wr.cell? ⟨b',off'+k,none⟩=some (.string x):=(hbel.cell (World.block_lt_of_cell? w _ (hcell' k x hx))).trans (hcell' k x hx);have hxx:(x.toList==x.toList)=true:=by simp
   clear hx hcell hcell' hc hc' hls;go_wp2;go_region
   all_goals
    go_wp2;go_roundw
    case rel=>exact⟨k+1,by omega,by go_num,hbel.drew⟩
    case measure=>simp [intOf];omega
  ·go_wp2;go_ret;exact⟨rfl,hbel⟩
end Go.Proofs.YtgilkakllagbnaaGreat
