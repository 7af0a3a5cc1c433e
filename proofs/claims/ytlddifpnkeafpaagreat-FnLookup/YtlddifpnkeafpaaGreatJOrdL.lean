import Derived.Deep.RegionHeld
import Derived.Test.YtlddifpnkeafpaaGreatJAls
import Derived.BigQuiet
import Derived.Deep.WholeRow
import Derived.Lib.Split
set_option linter.unusedVariables false
set_option maxRecDepth 100000
set_option maxHeartbeats 800000
namespace Go.Proofs.YtlddifpnkeafpaaGreat
open Go
variable {a:Act}{b:ByteArray}{cap fuel g i j k n:Nat}{listed:Array Bool}{o oi:Oper}{v:Value}{w w1 w2:World}{xs ys zs:List ByteArray}
section
variable {P:Program}{ops:Array Oper}{Q:Exit->Act->World->Prop}{md:Region.Mode}{S:World->Prop}{L:Nat}
def wpAnyL(P:Program)(md:Region.Mode)(ops:Array Oper)(Q:Exit->Act->World->Prop)(S:World->Prop)(L:Nat):Nat->Array Bool->Act->World->Prop
 |0,listed,a,w=>Region.ready md ops listed=[]∧Q .normal a w
 |fuel+1,listed,a,w=>
  (Region.ready md ops listed=[]->Q .normal a w)∧
  ∀ i∈Region.ready md ops listed,wpOp P ops Q i (fun a' w'=>(i=L∨S w')∧wpAnyL P md ops Q S L fuel (listed.setIfInBounds i true) a' w') a w
theorem MG:∀ (fuel:Nat) (listed:Array Bool) (a:Act) (w:World),wpAnyL P md ops Q S L fuel listed a w->wpAny P md ops Q fuel listed a w
 |0,_,_,_,h=>h
 |fuel+1,_,_,_,h=>⟨h.1,fun i hi=>wpOp_mono (fun a' w' h'=>MG fuel _ a' w' h'.2) (h.2 i hi)⟩
def waitsFor(md:Region.Mode)(ops:Array Oper)(L i:Nat):Bool:=match ops[L]? with
 |some o=>o.after.any (fun e=>Region.binds md e&&e.on==i)
 |none=>true
theorem ND{oj:Oper}(hi:i∈Region.ready md ops listed)(hj:j∈Region.ready md ops listed)(ho:ops[j]? =some oj):∀ e∈oj.after,Region.binds md e=true->e.on≠i:=by
 rintro e he hb rfl;obtain⟨_,o,ho2,qD⟩:=mem_ready.1 hj;obtain rfl:oj=o:=jI (ho.symm.trans ho2);have h1:=qD e he hb;have h0:=(mem_ready.1 hi).1;rw [Array.getD_eq_getD_getElem?] at h0 h1
 cases hx:listed[e.on]? with
 |none=>rw [hx] at h1;cases h1
 |some b=>rw [hx] at h0 h1;simp only [Option.getD_some] at h0 h1;rw [h0] at h1;cases h1
theorem YN(hL:waitsFor md ops L i=true)(hi:i∈Region.ready md ops listed)(hj:j∈Region.ready md ops listed):j≠L:=by
 rintro rfl;obtain⟨_,o,ho,_⟩:=mem_ready.1 hj;rw [waitsFor,ho] at hL;simp only [Array.any_eq_true',Bool.and_eq_true,beq_iff_eq] at hL;obtain⟨e,he,hb,h⟩:=hL;exact ND hi hj ho e he hb h
def BG(md:Region.Mode)(ops:Array Oper)(oi:Oper)(i:Nat)(listed:Array Bool):Prop:=∀ j oj,ops[j]? =some oj->j≠i->listed.getD j true=false->(∀ e∈oj.after,Region.binds md e=true->e.on≠i)->oi.apart ops oj=true
theorem BG.more(h:BG md ops oi i listed)(hj:listed.getD j true=false):BG md ops oi i (listed.setIfInBounds j true):=by
 intro k ok hk hki XA;refine h k ok hk hki ?_
 rcases Nat.decEq j k with dM|rfl
 ·rw [getD_set_ne true dM] at XA;exact XA
 exact hj
theorem wpAnyL_first(hi:ops[i]? =some oi)(aCy:∀ (j:Nat) (o:Oper) cs b,ops[j]? =some o->o.op≠ .select cs b)
 (hQ:∀ c a w,Q (.panic c) (a.put oi.dst v) w->Q (.panic c) a w) (hL:waitsFor md ops L i=true) (fuel:Nat):
 ∀ (listed:Array Bool) (a:Act) (w:World),BG md ops oi i listed->i∈Region.ready md ops listed->YieldsIf P ops S oi v a->S w->
   wpAnyL P md ops Q S L fuel (listed.setIfInBounds i true) (a.put oi.dst v) w->wpAnyL P md ops Q S L (fuel+1) listed a w:=by
 induction fuel with
 |zero=>
  intro listed a w _ hr hy hS H;refine⟨fun h=>absurd (h▸hr) (by simp),fun j hj=>?_⟩
  rcases Nat.decEq j i with dM|rfl
  ·exact absurd (H.1▸ready_mono hj dM) (by simp)
  exact hy.wpOp hi hS ⟨.inr hS,H⟩
 |succ fuel ih=>
  intro listed a w XA hr hy hS H;refine⟨fun h=>absurd (h▸hr) (by simp),fun j hj=>?_⟩
  rcases Nat.decEq j i with dM|rfl
  ·obtain⟨hju,oj,hoj,_⟩:=mem_ready.1 hj;have zL:=wpOp_putIf hoj (XA j oj hoj dM hju (ND hr hj hoj)) (fun cs b=>aCy i oi cs b hi) (fun cs b=>aCy j oj cs b hoj) hQ hy (H.2 j (ready_mono hj dM));refine wpOp_mono (fun a' w' ⟨hy',Wt,hW⟩=>?_) zL;have LG:=Wt.resolve_left (YN hL hr hj);exact⟨.inr LG,ih _ a' w' (XA.more hju) (ready_mono hr (Ne.symm dM)) hy' LG (by rw [Array.setIfInBounds_comm _ _ dM];exact hW)⟩
  exact hy.wpOp hi hS ⟨.inr hS,H⟩
theorem GH(hi:ops[i]? =some oi)
 (hs:Region.noSelect ops=true) (hf:Region.free md ops listed i=true) (hr:(Region.ready md ops listed).contains i=true) (hL:waitsFor md ops L i=true)
 (hQ:∀ c a w,Q (.panic c) (a.put oi.dst v) w->Q (.panic c) a w) (hy:YieldsIf P ops S oi v a) (hS:S w)
 (h:wpAnyL P md ops Q S L fuel (listed.setIfInBounds i true) (a.put oi.dst v) w):wpAnyL P md ops Q S L (fuel+1) listed a w:=
 wpAnyL_first hi (Region.noSelect_spec hs) hQ hL fuel listed a w (Region.free_spec hi hf) (by simpa using hr) hy hS h
theorem NE(hi:ops[i]? =some oi)
 (hy:∀ w,S w->(execOp a.eval oi).run P w=.ok (.value v) w) (h:wpAnyL P md ops Q S L fuel (listed.setIfInBounds i true) (a.put oi.dst v) w)
 (hs:Region.noSelect ops=true:=by kernel_rfl) (hf:Region.free md ops listed i=true:=by kernel_rfl) (hr:(Region.ready md ops listed).contains i=true:=by kernel_rfl) (hL:waitsFor md ops L i=true:=by kernel_rfl)
 (hQ:∀ c a w,Q (.panic c) (a.put oi.dst v) w->Q (.panic c) a w:=by exact fun _ _ _ h=>h) (hw:Region.wanted oi (yielded ops a.tmps)=true:=by rfl) (hS:S w:=by assumption):wpAnyL P md ops Q S L (fuel+1) listed a w:=
 GH hi hs hf hr hL hQ (Or.inl ⟨hw,hy⟩) hS h
theorem DU(hr:Region.ready md ops listed=[i])(ho:ops[i]? =some o)
 (h:∀ K':Act->World->Prop,Shut (∀ a w,S w->(S w->wpAnyL P md ops Q S L fuel (listed.setIfInBounds i true) a w)->K' a w)->if Region.wanted o (yielded ops a.tmps)=true then Oper.wp P o a w K' Q else K' (a.put o.dst undef) w):
 wpAnyL P md ops Q S L (fuel+1) listed a w:=by
 refine⟨fun h0=>(by rw [hr] at h0;cases h0),fun j hj=>?_⟩;rw [hr] at hj;obtain rfl:j=i:=by simpa using hj
 exact wpOp_step ho (fun K' hK=>h K' (fun a w hS hW=>hK a w ⟨.inr hS,hW hS⟩))
theorem iB(hr:Region.ready md ops listed=[L])(ho:ops[L]? =some o)(he:Region.ready md ops (listed.setIfInBounds L true)=[])
 (h:∀ K':Act->World->Prop,Shut (∀ a w,Q .normal a w->K' a w)->if Region.wanted o (yielded ops a.tmps)=true then Oper.wp P o a w K' Q else K' (a.put o.dst undef) w):
 wpAnyL P md ops Q S L (fuel+1) listed a w:=by
 refine⟨fun h0=>(by rw [hr] at h0;cases h0),fun j hj=>?_⟩;rw [hr] at hj;obtain rfl:j=L:=by simpa using hj
 refine wpOp_step ho (fun K' hK=>h K' (fun a w hq=>hK a w ⟨.inl rfl,?_⟩))
 cases fuel with
 |zero=>exact⟨he,hq⟩
 |succ n=>exact⟨fun _=>hq,by rw [he];intro i hi;cases hi⟩
theorem xV{id:Nat}(S:World->Prop)(L:Nat)(hm:P.follows .mixedOrders=true)(hS:S w.drew)
 (h:S w.drew->wpAnyL P .any ops Q S L ops.size (Array.replicate ops.size false) a w.drew):(Code.region id ops true).wp P Q a w:=
 wp_region_any hm (MG _ _ _ _ (h hS))
end
section
variable {P:Program}{ops:Array Oper}{Q:Exit->Act->World->Prop}{md:Region.Mode}{S:World->Prop}{L:Nat}
theorem UL(hr:Region.ready md ops listed=[])(hq:Q .normal a w):wpAnyL P md ops Q S L fuel listed a w:=by
 cases fuel with
 |zero=>exact⟨hr,hq⟩
 |succ n=>exact⟨fun _=>hq,by rw [hr];intro i hi;cases hi⟩
theorem YO{o':Oper}(hr:Region.ready md ops listed=[i,j])(ho:ops[i]? =some o)(OA:ops[j]? =some o')
 (h:∀ K':Act->World->Prop,Shut (∀ a w,S w->(S w->wpAnyL P md ops Q S L fuel (listed.setIfInBounds i true) a w)->K' a w)->if Region.wanted o (yielded ops a.tmps)=true then Oper.wp P o a w K' Q else K' (a.put o.dst undef) w)
 (h':∀ K':Act->World->Prop,Shut (∀ a w,S w->(S w->wpAnyL P md ops Q S L fuel (listed.setIfInBounds j true) a w)->K' a w)->if Region.wanted o' (yielded ops a.tmps)=true then Oper.wp P o' a w K' Q else K' (a.put o'.dst undef) w):
 wpAnyL P md ops Q S L (fuel+1) listed a w:=by
 refine⟨fun h0=>(by rw [hr] at h0;cases h0),fun k hk=>?_⟩;rw [hr] at hk
 rcases(show k=i∨k=j by simpa using hk) with rfl|rfl
 ·exact wpOp_step ho (fun K' hK=>h K' (fun a w hS hW=>hK a w ⟨.inr hS,hW hS⟩))
 exact wpOp_step OA (fun K' hK=>h' K' (fun a w hS hW=>hK a w ⟨.inr hS,hW hS⟩))
end
open Go.RowKit
def eO(rs:List (Value×Value)):List Value:=rs.flatMap fun p=>[p.1,p.2]
theorem eY:∀ (rs:List (Value×Value)) (k j:Nat) (x:Value×Value),rs[k]? =some x->j<2->(eO rs)[k*2+j]? =[x.1,x.2][j]? :=by
 intro rs
 induction rs with
 |nil=>intro k j x h;simp at h
 |cons y rs ih=>
  intro k j x h hj;have e:eO (y::rs)=[y.1,y.2]++eO rs:=by simp [eO]
  cases k with
  |zero=>
   simp at h;subst h
   rw [e,Nat.zero_mul,Nat.zero_add,List.getElem?_append_left (by simpa using hj)]
  |succ k=>
   simp at h;rw [e,List.getElem?_append_right (by simp;omega),show(k+1)*2+j - [y.1,y.2].length=k*2+j by simp;omega];exact ih k j x h hj
def FU(n:Nat)(cf:Nat->Int)(k:Nat):Prop:=k<=n∧(∀ i,i<k->cf i<0)∧(∀ i,k<=i->i<n->0<=cf i)
theorem FU.unique{cf:Nat->Int}{a b:Nat}(ha:FU n cf a)(hb:FU n cf b):a=b:=by
 obtain⟨a1,a2,a3⟩:=ha;obtain⟨b1,b2,b3⟩:=hb
 rcases Nat.lt_trichotomy a b with h|h|h
 ·have h1:=b2 a h;have h2:=a3 a (aI _) (by omega);omega
 ·exact h
 have h1:=a2 b h;have h2:=b3 b (aI _) (by omega);omega
theorem Wu(rs:List (Value×Value))(k:Nat):eO (rs.take k)=(eO rs).take (k*2):=by
 induction rs generalizing k with
 |nil=>simp [eO]
 |cons x rs ih=>
  have e:∀ z zs,eO (z::zs)=[z.1,z.2]++eO zs:=by intro z zs;simp [eO]
  cases k with
  |zero=>simp [eO]
  |succ k=>
   rw [List.take_succ_cons,e,e,ih,List.take_append,List.take_of_length_le (l:=[x.1,x.2]) (i:=(k+1)*2) (by simp;omega),show(k+1)*2 - [x.1,x.2].length=k*2 by simp;omega]
theorem Wv(rs:List (Value×Value))(k:Nat):eO (rs.drop k)=(eO rs).drop (k*2):=by
 induction rs generalizing k with
 |nil=>simp [eO]
 |cons x rs ih=>
  have e:∀ z zs,eO (z::zs)=[z.1,z.2]++eO zs:=by intro z zs;simp [eO]
  cases k with
  |zero=>simp
  |succ k=>
   rw [List.drop_succ_cons,e,ih,List.drop_append,List.drop_of_length_le (l:=[x.1,x.2]) (i:=(k+1)*2) (by simp;omega),show(k+1)*2 - [x.1,x.2].length=k*2 by simp;omega,List.nil_append]
theorem RQ(rs:List (Value×Value))(k:Nat)(a b:Value):(eO rs).take (k*2)++[a,b]++(eO rs).drop (k*2)=eO (rs.take k++[(a,b)]++rs.drop k):=by
 rw [<- Wu,<- Wv];simp [eO]
theorem RX{rs:List (Value×Value)}(h:∀ p∈rs,p.1.oneCell'=true∧p.2.oneCell'=true):∀ u∈eO rs,u.oneCell'=true:=by
 intro u hu;simp only [eO,List.mem_flatMap] at hu;obtain⟨p,hp,hu⟩:=hu;simp at hu
 rcases hu with rfl|rfl
 ·exact(h p hp).1
 exact(h p hp).2
structure Kp2 (g:Nat) (rb:Option Nat) (w w':World):Prop where
 os:w'.os=w.os
 tape:w'.tape=w.tape
 output:w'.output=w.output
 size:w.heap.size<=w'.heap.size
 block:∀ k,k<w.heap.size->k≠g->rb≠some k->w'.heap[k]? =w.heap[k]?
theorem Kp2.dS{b:Nat}{rb:Option Nat}{w':World}{cs:Array Value}{T:TypeId}(h:Kp2 g rb w w')(hb:bW w b cs T)(h1:b≠g)(h2:rb≠some b):bW w' b cs T:=(h.block b (cO hb) h1 h2).trans hb
theorem Nz(a:Int)(w:World):Calls Tryz.prog 185 #[.int .i64 a] w fun e w'=>e=.returned (.bool false)∧w'=w:=by
 have e:(a != a)=false:=by simp
 go_enter Tryz.func185,Tryz.ntmps185;go_wp2;go_ret;exact⟨rfl,rfl⟩
theorem X3(a b:Int)(w:World):Calls Tryz.prog 167 #[.int .i64 a,.int .i64 b] w fun e w'=>e=.returned (.int .i64 (Nm.pI a b))∧w'=w:=by
 have h1:=fun x W=>Nz x W
 by_cases bY:a<b
 ·rw [Nm.pJ bY];go_enter Tryz.func167,Tryz.ntmps167;go_wp2_with (go_at_call 185;refine(h1 _ _).mono ?_;rintro e w' ⟨rfl,hw'⟩;obtain rfl:=hw'.symm)
  go_ret;exact⟨rfl,rfl⟩
 by_cases hgt:b<a
 ·rw [Nm.pK hgt];go_enter Tryz.func167,Tryz.ntmps167;go_wp2_with (go_at_call 185;refine(h1 _ _).mono ?_;rintro e w' ⟨rfl,hw'⟩;obtain rfl:=hw'.symm)
  go_ret;exact⟨rfl,rfl⟩
 obtain rfl:a=b:=by omega
 rw [Nm.vC rfl];go_enter Tryz.func167,Tryz.ntmps167;go_wp2_with (go_at_call 185;refine(h1 _ _).mono ?_;rintro e w' ⟨rfl,hw'⟩;obtain rfl:=hw'.symm)
 go_ret;exact⟨rfl,rfl⟩
theorem Ww:∀ l:List UInt8,Op.bytesLess l l=false:=by
 intro l
 induction l with
 |nil=>rfl
 |cons x l ih=>simp [Op.bytesLess,ih]
theorem uM(a b:List UInt8):Nm.iV a b=0↔a=b:=by
 constructor
 ·intro h
  by_cases h1:Op.bytesLess a b=true
  ·rw [Nm.iV,if_pos h1] at h;omega
  rw [Nm.iV,if_neg h1] at h
  by_cases h2:a=b
  ·exact h2
  rw [if_neg h2] at h;omega
 intro h;subst h;rw [Nm.iV,if_neg (by simp [Ww]),if_pos rfl]
def eQ(a b:ByteArray):Bool:=(Nm.split a).isSome&&(Nm.split b).isSome&&decide (Nm.jP a b=0)
theorem X4{a:ByteArray}(h:Nm.split a=none):eQ a b=false:=by simp [eQ,h]
theorem Wx{a:ByteArray}(h:Nm.split b=none):eQ a b=false:=by simp [eQ,h]
theorem RY{a:ByteArray}(ha:Nm.split a=some xs)(hb:Nm.split b=some ys):eQ a b=decide (Nm.jP a b=0):=by simp [eQ,ha,hb]
theorem X5{a:ByteArray}(h:Nm.split a=some xs):(Nm.small a).toList.isEmpty=false:=by
 apply Nm.OL;rw [Nm.qW];have:=Nm.dK h;omega
theorem aCz(a b:ByteArray):((Nm.small a).toList==(Nm.small b).toList)=decide (Nm.jP a b=0):=by
 rw [Bool.eq_iff_iff];simp only [beq_iff_eq,decide_eq_true_eq,Nm.jP,uM];rw [ByteArray.toList_eq,ByteArray.toList_eq,Nm.eF,Nm.eF]
theorem X6:∀ (zs:List ByteArray) (f:Nat) (r:ByteArray),r.data.toList=Nm.joinL zs->(∀ x∈zs,1<=x.size∧x.size<=63)->r.size<f->Nm.jK f r=some zs:=by
 intro zs
 induction zs with
 |nil=>
  intro f r hd _ hf;have qA:r.size=1:=by have:=congrArg List.length hd;simpa [Nm.joinL,Nm.uE] using this
  have hp:0<r.size:=by omega
  have h0:r[0].toNat=0:=by
   have e:=Nm.lF hp;rw [hd] at e;have:r[0]=0:=by simpa [Nm.joinL,Nm.uE] using e.symm
   rw [this];rfl
  obtain⟨g,rfl⟩:∃ g,f=g+1:=⟨f-1,by omega⟩
  exact Nm.xS g r hp h0 qA
 |cons x t ih=>
  intro f r hd hx hf;have NF:=hx x List.mem_cons_self
  have hlen:r.size=(1+x.size)+Nm.cK t+1:=by
   have:=congrArg List.length hd;rw [Nm.mW] at this;simp only [Nm.cK] at this;simpa using this
  have hp:0<r.size:=by omega
  have e0:r[0]=UInt8.ofNat x.size:=by
   have e:=Nm.lF hp;rw [hd] at e;simpa [Nm.joinL,Nm.uE] using e.symm
  have hn:r[0].toNat=x.size:=by rw [e0];simp;omega
  have XB:r.data.toList=UInt8.ofNat x.size::(x.data.toList++Nm.joinL t):=by rw [hd];simp [Nm.joinL,Nm.uE]
  have xl:x.data.toList.length=x.size:=by simp
  have c1:r.extract 1 (x.size+1)=x:=by
   apply Nm.lL;have e1:(r.extract 1 (x.size+1)).data.toList=(r.data.toList.drop 1).take x.size:=by simp
   rw [e1,XB,List.drop_succ_cons,List.drop_zero,<- xl,List.take_left]
  have c2:(r.extract (x.size+1) r.size).data.toList=Nm.joinL t:=by
   have e2:(r.extract (x.size+1) r.size).data.toList=(r.data.toList.drop 1).drop x.size:=by
    simp only [ByteArray.data_extract,Array.toList_extract,List.drop_drop];rw [List.extract_eq_take_drop,List.take_of_length_le (by simp)];congr 1;omega
   rw [e2,XB,List.drop_succ_cons,List.drop_zero,<- xl,List.drop_left]
  obtain⟨g,rfl⟩:∃ g,f=g+1:=⟨f-1,by omega⟩;rw [Nm.rP g r hp (by omega) (by omega) (by omega),hn,c1,ih g _ c2 (fun y hy=>hx y (List.mem_cons_of_mem _ hy)) (by simp;omega)];rfl
theorem qI(h:∀ x∈zs,1<=x.size∧x.size<=63)(hw:Nm.cK zs<=254):Nm.split ⟨(Nm.joinL zs).toArray⟩=some zs:=by
 have qA:(ByteArray.mk (Nm.joinL zs).toArray).size=Nm.cK zs+1:=by
  show(Nm.joinL zs).toArray.size=_
  rw [List.size_toArray,Nm.mW]
 rw [Nm.rQ _ (by omega)];exact X6 zs 256 _ (by simp) h (by omega)
theorem Gd(x y:ByteArray):Nm.jP x y=0↔Nm.small x=Nm.small y:=by
 rw [Nm.jP,uM];constructor
 ·intro h;apply Nm.lL;rw [Nm.eF,Nm.eF,h]
 intro h;rw [<- Nm.eF,<- Nm.eF,h]
theorem Oa:∀ (a b:List ByteArray),Nm.dW a b=0↔a.map Nm.small=b.map Nm.small:=by
 intro a
 induction a with
 |nil=>
  intro b
  cases b with
  |nil=>simp [Nm.dW]
  |cons y b=>simp [Nm.dW]
 |cons x a ih=>
  intro b
  cases b with
  |nil=>simp [Nm.dW]
  |cons y b=>
   rw [Nm.dW]
   by_cases h:Nm.jP x y=0
   ·rw [if_pos h,ih b];simp [(Gd x y).1 h]
   rw [if_neg h];have dM:Nm.small x≠Nm.small y:=fun e=>h ((Gd x y).2 e)
   simp [h,dM]
theorem lM(a b:List ByteArray):Nm.aN a b=0↔a.map Nm.small=b.map Nm.small:=by
 rw [Nm.aN,Oa,List.map_reverse,List.map_reverse];constructor
 ·intro h;exact List.reverse_inj.1 h
 intro h;rw [h]
theorem OU(h:∀ x∈zs,1<=x.size∧x.size<=63):Nm.eX (Nm.joinL zs)=Nm.joinL (zs.map Nm.small):=by
 simp only [Nm.joinL];rw [Nm.YH zs (fun x hx=>(h x hx).2)];simp [Nm.eX,Nm.low]
theorem aC0{a b:List ByteArray}(ha:∀ x∈a,1<=x.size∧x.size<=63)(hb:∀ x∈b,1<=x.size∧x.size<=63)(wa:Nm.cK a<=254)(wb:Nm.cK b<=254)(h:Nm.joinL a=Nm.joinL b):a=b:=by
 have h1:=qI ha wa;have h2:=qI hb wb;rw [h] at h1;rw [h1] at h2;exact jI h2
theorem YP(h:∀ x∈zs,1<=x.size∧x.size<=63):∀ x∈zs.map Nm.small,1<=x.size∧x.size<=63:=by
 intro x hx;obtain⟨y,hy,rfl⟩:=kJ hx;rw [Nm.qW];exact h y hy
def aQ(xs ys:List ByteArray):Bool:=decide (ys.length<=xs.length)&&decide (Nm.aN (xs.drop (xs.length-ys.length)) ys=0)
theorem Od(hz:∀ x∈zs,1<=x.size∧x.size<=63)(wz:Nm.cK zs<=254)(hb:Nm.split b=some ys):
 Nm.jP ⟨(Nm.joinL zs).toArray⟩ b=0↔Nm.aN zs ys=0:=by
 obtain⟨hj,hy⟩:=Nm.jB hb;obtain⟨wy,wy2⟩:=Nm.dK hb;rw [Nm.jP,uM,lM];simp only
 rw [<- hj,OU hz,OU hy];constructor
 ·intro h;exact aC0 (YP hz) (YP hy) (by rw [Nm.DK];omega) (by rw [Nm.DK];omega) h
 intro h;rw [h]
def cZ(a b:ByteArray):Bool:=
 match Nm.split a,Nm.split b with
 |some xs,some ys=>aQ xs ys
 |_,_=>false
theorem Ir{a:ByteArray}(h:Nm.split a=none):cZ a b=false:=by simp [cZ,h]
theorem MH{a:ByteArray}(h:Nm.split b=none):cZ a b=false:=by
 cases ha:Nm.split a<;>simp [cZ,h,ha]
theorem bZ{a:ByteArray}(ha:Nm.split a=some xs)(hb:Nm.split b=some ys):cZ a b=aQ xs ys:=by simp [cZ,ha,hb]
theorem Iu(h:∀ x∈xs,1<=x.size∧x.size<=63)(k:Nat):∀ x∈xs.drop k,1<=x.size∧x.size<=63:=
 fun x hx=>h x (List.mem_of_mem_drop hx)
theorem Wy{a:ByteArray}(ha:Nm.split a=some xs)(hb:Nm.split b=some ys)(hl:ys.length<=xs.length):
 eQ ⟨(Nm.joinL (xs.drop (xs.length-ys.length))).toArray⟩ b=aQ xs ys:=by
 have hx:=(Nm.jB ha).2;have hw:=Nm.dK ha;have hd:=Nm.pG xs (xs.length-ys.length);have hs:=qI (Iu hx (xs.length-ys.length)) (by omega);rw [RY hs hb,aQ];simp only [hl,decide_true,Bool.true_and];rw [Bool.eq_iff_iff];simp only [decide_eq_true_eq];exact Od (Iu hx _) (by omega) hb
theorem X7(a b:Int):Nm.pI b a= -Nm.pI a b:=by
 unfold Nm.pI
 split<;>split<;>first|omega|(split<;>omega)|skip
 all_goals simp_all<;>omega
theorem XC{a b:Int}(h:a≠b):Nm.pI a b<=0↔a<b:=by
 by_cases h1:a<b
 ·rw [Nm.pJ h1];simp [h1]
 rw [Nm.pK (by omega)];simp [h1]
theorem rU:∀ (a b:List UInt8),Nm.iV b a= -Nm.iV a b
 |[],[]=>rfl
 |[],y::b=>rfl
 |x::a,[]=>rfl
 |x::a,y::b=>by
  by_cases h:x=y
  ·subst h;rw [Nm.xE,Nm.xE];exact rU a b
  rw [Nm.wN a b h,Nm.wN b a (Ne.symm h)];exact X7 _ _
theorem Wz(a b:List UInt8): -1<=Nm.iV a b∧Nm.iV a b<=1:=by
 unfold Nm.iV;split
 ·omega
 split<;>omega
theorem uN:∀ (a b c:List UInt8),Nm.iV a b<=0->Nm.iV b c<=0->Nm.iV a c<=0
 |[],b,[],_,_=>by rw [Nm.aCu];decide
 |[],b,z::c,_,_=>by rw [Nm.Gc];decide
 |x::a,[],c,h,_=>by rw [Nm.NA] at h;omega
 |x::a,y::b,[],_,h=>by rw [Nm.NA] at h;omega
 |x::a,y::b,z::c,h1,h2=>by
  have inj:∀ {p q:UInt8},p≠q->(p.toNat:Int)≠(q.toNat:Int):=fun h e=>h (UInt8.toNat_inj.1 (by omega))
  by_cases XD:x=y
  ·subst XD
   by_cases Xa:x=z
   ·subst Xa;rw [Nm.xE] at h1 h2 ⊢;exact uN a b c h1 h2
   rw [Nm.wN _ _ Xa] at h2 ⊢;exact h2
  rw [Nm.wN _ _ XD,XC (inj XD)] at h1
  by_cases Xa:y=z
  ·subst Xa;rw [Nm.wN _ _ XD,XC (inj XD)];exact h1
  rw [Nm.wN _ _ Xa,XC (inj Xa)] at h2;have X8:x≠z:=fun e=>by subst e;omega
  rw [Nm.wN _ _ X8,XC (inj X8)];omega
theorem KA(x y:ByteArray):Nm.jP y x= -Nm.jP x y:=rU _ _
theorem BH{x y:ByteArray}(h:Nm.jP x y=0)(z:ByteArray):Nm.jP x z=Nm.jP y z∧Nm.jP z x=Nm.jP z y:=by
 have e:=(uM _ _).1 h;unfold Nm.jP;rw [e];exact⟨rfl,rfl⟩
theorem UM:∀ (a b:List ByteArray),Nm.dW b a= -Nm.dW a b
 |[],[]=>rfl
 |[],y::b=>rfl
 |x::a,[]=>rfl
 |x::a,y::b=>by
  rw [Nm.dW,Nm.dW,KA x y]
  by_cases h:Nm.jP x y=0
  ·rw [if_pos h,if_pos (by omega)];exact UM a b
  rw [if_neg h,if_neg (by omega)]
theorem OV:∀ (a b:List ByteArray),-1<=Nm.dW a b∧Nm.dW a b<=1
 |[],[]=>by rw [Nm.dW];decide
 |[],y::b=>by rw [Nm.dW];decide
 |x::a,[]=>by rw [Nm.dW];decide
 |x::a,y::b=>by
  rw [Nm.dW];split
  ·exact OV a b
  exact Wz _ _
theorem OX:∀ (a b c:List ByteArray),Nm.dW a b<=0->Nm.dW b c<=0->Nm.dW a c<=0
 |[],b,[],_,_=>by rw [Nm.dW];decide
 |[],b,z::c,_,_=>by rw [Nm.dW];decide
 |x::a,[],c,h,_=>by rw [Nm.dW] at h;omega
 |x::a,y::b,[],_,h=>by rw [Nm.dW] at h;omega
 |x::a,y::b,z::c,h1,h2=>by
  rw [Nm.dW] at h1 h2 ⊢
  by_cases XD:Nm.jP x y=0
  ·rw [if_pos XD] at h1;rw [(BH XD z).1]
   by_cases Xa:Nm.jP y z=0
   ·rw [if_pos Xa] at h2 ⊢;exact OX a b c h1 h2
   rw [if_neg Xa] at h2 ⊢;exact h2
  rw [if_neg XD] at h1
  by_cases Xa:Nm.jP y z=0
  ·rw [<- (BH Xa x).2,if_neg XD];exact h1
  rw [if_neg Xa] at h2;have h3:Nm.jP x z<=0:=uN _ _ _ h1 h2
  have X8:Nm.jP x z≠0:=by
   intro e;have e1:=(BH e y).1;have e2:=KA y z;omega
  rw [if_neg X8];exact h3
theorem dU(a b:List ByteArray):Nm.aN b a= -Nm.aN a b:=UM _ _
theorem UN(a b:List ByteArray): -1<=Nm.aN a b∧Nm.aN a b<=1:=OV _ _
theorem iD{a b c:List ByteArray}(h1:Nm.aN a b<=0)(h2:Nm.aN b c<=0):Nm.aN a c<=0:=OX _ _ _ h1 h2
theorem OY{a b c:List ByteArray}(h1:0<=Nm.aN a b)(h2:0<=Nm.aN b c):0<=Nm.aN a c:=by
 have e1:=dU a b;have e2:=dU b c;have e3:=dU a c;have:=iD (a:=c) (b:=b) (c:=a) (by omega) (by omega);omega
theorem nC{a:ByteArray}(ha:Nm.split a=some xs)(hb:Nm.split b=some ys):eQ a b=decide (Nm.aN xs ys=0):=by
 have ja:=Nm.jB ha;have wa:=Nm.dK ha;have h1:=Od ja.2 (by omega) hb
 have ea:(⟨(Nm.joinL xs).toArray⟩:ByteArray)=a:=by
  apply ByteArray.ext;apply Array.toList_inj.1;simpa using ja.1
 rw [RY ha hb];rw [ea] at h1;simp only [h1]
theorem GI(n:Int)(W:World):
 (convert 22 9 (.slice (some ⟨W.heap.size,0,none⟩) 1 1)).run Tryz.prog (W.alloc (.cells #[.int .u8 n] 5))=.ok (.string ⟨#[UInt8.ofNat n.toNat]⟩) (W.alloc (.cells #[.int .u8 n] 5)):=by
 rw [run_convert_bytes_string _ 22 9 5 _ _ _ Tryz.underlying22 Tryz.underlying5 Tryz.underlying9];have hl:=run_loadCells_list (P:=Tryz.prog) (W.alloc (.cells #[.int .u8 n] 5)) ⟨W.heap.size,0,none⟩ ([n].map (Value.int .u8)) (fun j v hj=>cell_one_new W (.int .u8 n) 5 j v hj);rw [run_bytesToString _ _ 1 1 [n] hl];rfl
theorem Dy(n:Int)(W:World):
 (convert 22 9 (.slice (some ⟨W.heap.size,0,none⟩) 1 1)).run Tryz.prog (W.alloc (.cells #[.int .u8 n] 5)).drew=.ok (.string ⟨#[UInt8.ofNat n.toNat]⟩) (W.alloc (.cells #[.int .u8 n] 5)).drew:=
 GI n W.drew
theorem aHj{a:ByteArray}(h:a=b):Ending.returned (.string a)=.returned (.string b):=by rw [h]
theorem aC1(n:Nat):UInt8.ofNat (n % 256)=UInt8.ofNat n:=by
 apply UInt8.toNat_inj.1;simp
theorem lL{a:ByteArray}(h:a.data.toList=b.data.toList):a=b:=by
 apply ByteArray.ext;exact Array.toList_inj.1 h
theorem Gf(s:ByteArray):s.data.toList.length=s.size:=by simp
theorem bV(v:Value)(ls:List ByteArray)(w:World)(h:Nm.bP w v ls)(hlen:Nm.cK ls<=1000000000):
 Calls Tryz.prog 19 #[v] w fun e w'=>e=.returned (.string ⟨(Nm.joinL ls).toArray⟩)∧Below w.heap.size w w':=by
 obtain⟨a,cap,rfl,gT,kV,FC,hc⟩:=h;have YQ:=Nm.bL ls;go_enter Tryz.func19,Tryz.ntmps19;go_wp2
 go_loopw [3,4] (fun t i wr=>∃ (k:Nat) (s:ByteArray),k<=ls.length∧i=.int .i64 k∧t=.string s∧Hid (s.data.toList=Nm.uE (ls.take k))∧Below w.heap.size w wr)
  (fun _ i _=>ls.length-(intOf i).toNat)
 ·exact⟨0,_,dR _,rfl,rfl,rfl,aJ _ _⟩
 obtain⟨k,s,hk,rfl,rfl,HS,aG⟩:=hrel;have hw:=Nm.jT ls k;have qA:=aG.size;have XE:s.size=Nm.cK (ls.take k):=by rw [<- Gf,HS.out,Nm.UK]
 have hss':s.size<=1000000000:=by omega
 by_cases bY:k<ls.length
 ·obtain⟨x,hx⟩:=gQ bY;obtain⟨b,off,rfl,aH⟩:=hc (by intro h;rw [h] at bY;simp at bY);have UO:b<wr.heap.size:=vF (fD w _ (aH k x hx)) qA;have vS:wr.cell? ⟨b,off+k,none⟩=some (.string x):=(aG.cell (fD w _ (aH k x hx))).trans (aH k x hx);have HP:Hid (Nm.uE (ls.take (k+1))=Nm.uE (ls.take k)++(UInt8.ofNat x.size::x.data.toList)):=Nm.Gb hx
  have KC:s.size+(1+x.size)<=1000000000:=by
   have h1:=Nm.JY hx;have h2:=Nm.jT ls (k+1);omega
  have OB:=fun n=>Dy n wr
  clear hx aH hc FC XE hw;go_wp2;go_region
  all_goals
   go_wp2;go_roundw
   ·exact⟨k+1,_,by omega,by go_num,rfl,by show _=_;rw [HP.out,<- HS.out];simp [aC1],(aG.alloc qA _).drew⟩
   simp [intOf];omega
 have mK:k=ls.length:=by omega
 subst mK;rw [List.take_length] at HS;clear hc FC hw bY XE;have lN:(ByteArray.mk #[0]).size=1:=rfl;go_wp2;go_ret;exact⟨aHj (lL (by simp [Nm.joinL,HS.out])),aG⟩
def aHk:List ByteArray->Nat
 |[]=>0
 |l::r=>l.size+aHk r
structure Sz where
 own:ByteArray
 ty:Int
 tt:Int
 da:List ByteArray
abbrev Zp:Type:=Sz×Value
def YR(p:Zp):List Value:=[.string p.1.own,.int .i64 p.1.ty,.int .i64 p.1.tt,p.2]
def lG(ps:List Zp):List Value:=ps.flatMap YR
theorem KD(x:Zp)(xs:List Zp):lG (x::xs)=YR x++lG xs:=by simp [lG]
theorem qJ(a b:List Zp):lG (a++b)=lG a++lG b:=by simp [lG]
theorem GJ(xs:List Zp):(lG xs).length=xs.length*4:=by
 induction xs with
 |nil=>rfl
 |cons x xs ih=>
  have:(YR x).length=4:=rfl;rw [KD,oJ,ih,List.length_cons,this];omega
theorem lH:∀ (xs:List Zp) (k j:Nat) (x:Zp),xs[k]? =some x->j<4->(lG xs)[k*4+j]? =(YR x)[j]? :=by
 intro xs
 induction xs with
 |nil=>intro k j x h;simp at h
 |cons y xs ih=>
  intro k j x h hj;have hl:(YR y).length=4:=rfl
  cases k with
  |zero=>
   simp at h;subst h
   rw [KD,Nat.zero_mul,Nat.zero_add,List.getElem?_append_left (by omega)]
  |succ k=>
   simp at h;rw [KD,List.getElem?_append_right (by omega),hl,show(k+1)*4+j-4=k*4+j by omega];exact ih k j x h hj
theorem iE{xs:List Zp}{b off:Nat}{x:Zp}(hc:∀ (i:Nat) (y:Value),(lG xs)[i]? =some y->w.cell? ⟨b,off+i,none⟩=some y)(h:xs[k]? =some x):
 w.cell? ⟨b,off+k*4,none⟩=some (.string x.1.own)∧w.cell? ⟨b,off+k*4+1,none⟩=some (.int .i64 x.1.ty)∧w.cell? ⟨b,off+k*4+2,none⟩=some (.int .i64 x.1.tt)∧w.cell? ⟨b,off+k*4+3,none⟩=some x.2:=
 ⟨hc (k*4) _ ((lH xs k 0 x h (by decide)).trans rfl),hc (k*4+1) _ ((lH xs k 1 x h (by decide)).trans rfl),hc (k*4+2) _ ((lH xs k 2 x h (by decide)).trans rfl),hc (k*4+3) _ ((lH xs k 3 x h (by decide)).trans rfl)⟩
def gG(w:World)(v:Value)(ps:List Zp):Prop:=dZ w v ps.length 4 (lG ps)∧∀ p∈ps,Nm.bP w p.2 p.1.da
variable {ps:List Zp}
theorem mX(h:gG w v ps):∃ a c,v=.slice a ps.length c:=by obtain⟨⟨_,a,c,e,_⟩,_⟩:=h;exact⟨a,c,e⟩
theorem gG.below{W:World}(h:gG w v ps)(hb:Below w.heap.size w W):gG W v ps:=⟨h.1.below hb,fun p hp=>(h.2 p hp).below hb⟩
def zs1(s:Sz):Nat:=s.own.size+(s.da.length+aHk s.da)
def wP:List Zp->Nat
 |[]=>0
 |x::xs=>zs1 x.1+wP xs
theorem Oe:∀ (xs:List Zp) (x:Zp),x∈xs->zs1 x.1<=wP xs:=by
 intro xs
 induction xs with
 |nil=>intro x h;simp at h
 |cons y xs ih=>
  intro x h
  rcases List.mem_cons.1 h with rfl|h
  ·simp only [wP];omega
  have:=ih x h;simp only [wP];omega
section
variable {P:Program}{ops:Array Oper}{Q:Exit->Act->World->Prop}{md:Region.Mode}{S:World->Prop}{Ls:List Nat}
def wpAnyS(P:Program)(md:Region.Mode)(ops:Array Oper)(Q:Exit->Act->World->Prop)(S:World->Prop)(Ls:List Nat):Nat->Array Bool->Act->World->Prop
 |0,listed,a,w=>Region.ready md ops listed=[]∧Q .normal a w
 |fuel+1,listed,a,w=>
  (Region.ready md ops listed=[]->Q .normal a w)∧
  ∀ i∈Region.ready md ops listed,wpOp P ops Q i (fun a' w'=>(i∈Ls∨S w')∧wpAnyS P md ops Q S Ls fuel (listed.setIfInBounds i true) a' w') a w
theorem YS:∀ (fuel:Nat) (listed:Array Bool) (a:Act) (w:World),wpAnyS P md ops Q S Ls fuel listed a w->wpAny P md ops Q fuel listed a w
 |0,_,_,_,h=>h
 |fuel+1,_,_,_,h=>⟨h.1,fun i hi=>wpOp_mono (fun a' w' h'=>YS fuel _ a' w' h'.2) (h.2 i hi)⟩
theorem Xb(hL:Ls.all (fun L=>waitsFor md ops L i)=true)(hi:i∈Region.ready md ops listed)(hj:j∈Region.ready md ops listed):j∉Ls:=fun h=>YN (List.all_eq_true.1 hL j h) hi hj rfl
theorem wpAnyS_first(hi:ops[i]? =some oi)(aCy:∀ (j:Nat) (o:Oper) cs b,ops[j]? =some o->o.op≠ .select cs b)
 (hQ:∀ c a w,Q (.panic c) (a.put oi.dst v) w->Q (.panic c) a w) (hL:Ls.all (fun L=>waitsFor md ops L i)=true) (fuel:Nat):
 ∀ (listed:Array Bool) (a:Act) (w:World),BG md ops oi i listed->i∈Region.ready md ops listed->YieldsIf P ops S oi v a->S w->
   wpAnyS P md ops Q S Ls fuel (listed.setIfInBounds i true) (a.put oi.dst v) w->wpAnyS P md ops Q S Ls (fuel+1) listed a w:=by
 induction fuel with
 |zero=>
  intro listed a w _ hr hy hS H;refine⟨fun h=>absurd (h▸hr) (by simp),fun j hj=>?_⟩
  rcases Nat.decEq j i with dM|rfl
  ·exact absurd (H.1▸ready_mono hj dM) (by simp)
  exact hy.wpOp hi hS ⟨.inr hS,H⟩
 |succ fuel ih=>
  intro listed a w XA hr hy hS H;refine⟨fun h=>absurd (h▸hr) (by simp),fun j hj=>?_⟩
  rcases Nat.decEq j i with dM|rfl
  ·obtain⟨hju,oj,hoj,_⟩:=mem_ready.1 hj;have zL:=wpOp_putIf hoj (XA j oj hoj dM hju (ND hr hj hoj)) (fun cs b=>aCy i oi cs b hi) (fun cs b=>aCy j oj cs b hoj) hQ hy (H.2 j (ready_mono hj dM));refine wpOp_mono (fun a' w' ⟨hy',Wt,hW⟩=>?_) zL;have LG:=Wt.resolve_left (Xb hL hr hj);exact⟨.inr LG,ih _ a' w' (XA.more hju) (ready_mono hr (Ne.symm dM)) hy' LG (by rw [Array.setIfInBounds_comm _ _ dM];exact hW)⟩
  exact hy.wpOp hi hS ⟨.inr hS,H⟩
theorem gV(hi:ops[i]? =some oi)
 (hs:Region.noSelect ops=true) (hf:Region.free md ops listed i=true) (hr:(Region.ready md ops listed).contains i=true) (hL:Ls.all (fun L=>waitsFor md ops L i)=true)
 (hQ:∀ c a w,Q (.panic c) (a.put oi.dst v) w->Q (.panic c) a w) (hy:YieldsIf P ops S oi v a) (hS:S w)
 (h:wpAnyS P md ops Q S Ls fuel (listed.setIfInBounds i true) (a.put oi.dst v) w):wpAnyS P md ops Q S Ls (fuel+1) listed a w:=
 wpAnyS_first hi (Region.noSelect_spec hs) hQ hL fuel listed a w (Region.free_spec hi hf) (by simpa using hr) hy hS h
theorem Xc(hr:Region.ready md ops listed=[i])(ho:ops[i]? =some o)
 (h:∀ K':Act->World->Prop,Shut (∀ a w,S w->(S w->wpAnyS P md ops Q S Ls fuel (listed.setIfInBounds i true) a w)->K' a w)->if Region.wanted o (yielded ops a.tmps)=true then Oper.wp P o a w K' Q else K' (a.put o.dst undef) w):
 wpAnyS P md ops Q S Ls (fuel+1) listed a w:=by
 refine⟨fun h0=>(by rw [hr] at h0;cases h0),fun j hj=>?_⟩;rw [hr] at hj;obtain rfl:j=i:=by simpa using hj
 exact wpOp_step ho (fun K' hK=>h K' (fun a w hS hW=>hK a w ⟨.inr hS,hW hS⟩))
theorem UQ(hr:Region.ready md ops listed=[i])(ho:ops[i]? =some o)(hl:Ls.contains i=true)
 (h:∀ K':Act->World->Prop,Shut (∀ a w,wpAnyS P md ops Q S Ls fuel (listed.setIfInBounds i true) a w->K' a w)->if Region.wanted o (yielded ops a.tmps)=true then Oper.wp P o a w K' Q else K' (a.put o.dst undef) w):
 wpAnyS P md ops Q S Ls (fuel+1) listed a w:=by
 refine⟨fun h0=>(by rw [hr] at h0;cases h0),fun j hj=>?_⟩;rw [hr] at hj;obtain rfl:j=i:=by simpa using hj
 exact wpOp_step ho (fun K' hK=>h K' (fun a w hW=>hK a w ⟨.inl (by simpa using hl),hW⟩))
theorem Oh(hr:Region.ready md ops listed=[])(hq:Q .normal a w):wpAnyS P md ops Q S Ls fuel listed a w:=by
 cases fuel with
 |zero=>exact⟨hr,hq⟩
 |succ n=>exact⟨fun _=>hq,by rw [hr];intro i hi;cases hi⟩
theorem Oi{id:Nat}(S:World->Prop)(Ls:List Nat)(hm:P.follows .mixedOrders=true)(hS:S w.drew)
 (h:S w.drew->wpAnyS P .any ops Q S Ls ops.size (Array.replicate ops.size false) a w.drew):(Code.region id ops true).wp P Q a w:=
 wp_region_any hm (YS _ _ _ _ (h hS))
end
def iW(s:Sz):List Rr:=s.da.map fun d=>⟨s.own,s.ty,1,s.tt,d⟩
def gD(ps:List Zp):List Rr:=ps.flatMap fun p=>iW p.1
def jQ:List Zp->Nat
 |[]=>0
 |x::xs=>x.1.da.length+jQ xs
def aR(ps:List Zp):List Rr:=if 500<ps.length∨500<jQ ps then [] else gD ps
theorem xW(s:Sz):(iW s).length=s.da.length:=by simp [iW]
theorem YT{s:Sz}{d:ByteArray}(h:s.da[k]? =some d):(iW s).take (k+1)=(iW s).take k++[⟨s.own,s.ty,1,s.tt,d⟩]:=by
 rw [List.take_add_one];congr 1;simp [iW,h]
theorem KE:∀ (xs:List Zp) (k:Nat) (x:Zp),xs[k]? =some x->jQ (xs.take (k+1))=jQ (xs.take k)+x.1.da.length:=by
 intro xs
 induction xs with
 |nil=>intro k x h;simp at h
 |cons y xs ih=>
  intro k x h
  cases k with
  |zero=>simp at h;subst h;simp [jQ]
  |succ k=>
   simp at h;have:=ih k x h;simp only [List.take_succ_cons,jQ];omega
theorem wQ:∀ (xs:List Zp) (k:Nat),jQ (xs.take k)<=jQ xs:=by
 intro xs
 induction xs with
 |nil=>intro k;simp [jQ]
 |cons y xs ih=>
  intro k
  cases k with
  |zero=>simp [jQ]
  |succ k=>have:=ih k;simp only [List.take_succ_cons,jQ];omega
theorem aHl(ps:List Zp):jQ ps<=wP ps:=by
 induction ps with
 |nil=>simp [jQ,wP]
 |cons y ps ih=>simp only [jQ,wP,zs1];omega
theorem OZ{x:Zp}(h:ps[k]? =some x):gD (ps.take (k+1))=gD (ps.take k)++iW x.1:=by
 rw [List.take_add_one,h];simp [gD]
theorem zM(ps:List Zp):(gD ps).length=jQ ps:=by
 induction ps with
 |nil=>rfl
 |cons y ps ih=>
  have:gD (y::ps)=iW y.1++gD ps:=by simp [gD]
  rw [this,oJ,xW,ih,jQ]
theorem aKl(r:Rr):∀ u∈rvV r,u.oneCell'=true:=by
 intro u hu;simp [rvV] at hu
 rcases hu with rfl|rfl|rfl|rfl|rfl<;>rfl
theorem aHm(xs:List Rr):∀ u∈jC xs,u.oneCell'=true:=by
 intro u hu;simp only [jC,List.mem_flatMap] at hu;obtain⟨r,_,h⟩:=hu;exact aKl r u h
theorem eZ(w:World)(cs:Array Value)(e:Nat):∀ (j:Nat) (u:Value),cs.toList[j]? =some u->(w.alloc (.cells cs e)).cell? ((⟨w.heap.size,0,none⟩:Addr).add j)=some u:=by
 intro j u h;rw [Nm.addr_add,Nat.zero_add];have:(w.alloc (.cells cs e)).heap[w.heap.size]? =some (.cells cs e (0,0)):=by show(w.heap.push _)[w.heap.size]? =_;simp
 rw [cell_of_row _ _ _ _ _ _ this];simpa using h
theorem Tryz.aKm:(Tryz.prog.info? 5).map (fun i=>(i.zero,i.size,i.bytes))=some (some (.int .u8 0),1,1):=by kernel_rfl
theorem Iw(v:Value)(ls:List ByteArray)(w:World)(h:Nm.bP w v ls)(hlen:Nm.cK ls<=1000000000):
 Calls Tryz.prog 112 #[v] w fun e w'=>e=.returned (.int .i64 ((1+Nm.cK ls:Nat):Int))∧w'=w:=by
 obtain⟨a,cap,rfl,gT,kV,FC,hc⟩:=h;have YQ:=Nm.bL ls
 by_cases dM:ls=[]
 ·subst dM;go_enter Tryz.func112,Tryz.ntmps112;go_wp2
  go_loop [3,8] (fun t i=>t=.int .i64 1∧i=.int .i64 0) (fun _ _=>0)
  ·exact⟨rfl,rfl⟩
  obtain⟨rfl,rfl⟩:=hrel;go_wp2;go_ret;exact⟨rfl,rfl⟩
 obtain⟨b,off,rfl,aH⟩:=hc dM;clear hc FC dM;go_enter Tryz.func112,Tryz.ntmps112;go_wp2
 go_loop [3,8] (fun t i=>∃ k:Nat,k<=ls.length∧i=.int .i64 k∧t=.int .i64 ((1+Nm.cK (ls.take k):Nat):Int)) (fun _ i=>ls.length-(intOf i).toNat)
 ·exact⟨0,dR _,rfl,rfl⟩
 obtain⟨k,hk,rfl,rfl⟩:=hrel;have hw:=Nm.jT ls k
 by_cases bY:k<ls.length
 ·obtain⟨x,hx⟩:=gQ bY;have vS:=aH k x hx;have HS:Hid (Nm.cK (ls.take (k+1))=Nm.cK (ls.take k)+(1+x.size)):=Nm.JY hx;have KC:Nm.cK (ls.take k)+(1+x.size)<=Nm.cK ls:=by rw [<- HS.out];exact Nm.jT ls (k+1)
  clear hx aH;go_wp2
  go_round
  ·exact⟨k+1,by omega,by go_num,by rw [HS.out];go_num⟩
  simp [intOf];omega
 go_wp2;go_ret;have:k=ls.length:=by omega
 subst this;rw [List.take_length];exact⟨rfl,rfl⟩
def GK(ls:List ByteArray):ByteArray:=if 255<1+Nm.cK ls then ByteArray.empty else⟨(Nm.joinL ls).toArray⟩
def GL(ls:List ByteArray):Int:=if 255<1+Nm.cK ls then 3 else 0
theorem GM{ls:List ByteArray}(h:Nm.cK ls<=254):GK ls=⟨(Nm.joinL ls).toArray⟩:=if_neg (by omega)
theorem GN{ls:List ByteArray}(h:Nm.cK ls<=254):GL ls=0:=if_neg (by omega)
theorem aC2(x:ByteArray)(h:x.size<=255):[Value.int .u8 (x.size:Int)]=Nm.LF [UInt8.ofNat x.size]:=by
 simp [Nm.LF];omega
theorem PD(v:Value)(ls:List ByteArray)(w:World)(h:Nm.bP w v ls)(hlen:Nm.cK ls<=1000000000):
 Calls Tryz.prog 68 #[v] w fun e w'=>e=.returned (.tuple #[.string (GK ls),.int .i64 (GL ls)])∧Below w.heap.size w w':=by
 have Xd:=Iw v ls w h hlen;obtain⟨j0,hj,k0,k1,k2⟩:=info_parts Tryz.aKm;obtain⟨a,cap,rfl,gT,kV,FC,hc⟩:=h;have YQ:=Nm.bL ls
 by_cases Gg:255<1+Nm.cK ls
 ·have HS:Hid (GK ls=ByteArray.empty):=if_pos Gg;have HC:Hid (GL ls=3):=if_pos Gg;clear hc;go_enter Tryz.func68,Tryz.ntmps68;go_wp2_with fail
  refine Xd.mono ?_;rintro e w1 ⟨rfl,rfl⟩;go_wp2;go_ret2;rw [HS.out,HC.out];exact⟨rfl,aJ _ _⟩
 have HS:Hid (GK ls=⟨(Nm.joinL ls).toArray⟩):=if_neg Gg;have HC:Hid (GL ls=0):=if_neg Gg;go_enter Tryz.func68,Tryz.ntmps68;go_wp2_with fail
 refine Xd.mono ?_;rintro e w1 ⟨rfl,rfl⟩;go_wp2_with (at_make;refine wpList_make_own _ rfl _ _ 22 rfl w1.heap.size 5 j0 (.int .u8 0) 1 Tryz.underlying22 hj k0 k1 .i64 .i64 _ (1+Nm.cK ls) rfl rfl rfl (by rw [k2];omega) (by unfold maxLen;omega) (aI _) ?_;intro w2 xX xY)
 go_loopw [5,16] (fun v i wr=>∃ k:Nat,k<=ls.length∧i=.int .i64 k∧wr.ownsRow w1.heap.size 5 1 v (Nm.cK (ls.take k)) (Nm.LF (Nm.uE (ls.take k)))∧Below w1.heap.size w1 wr)
  (fun _ i _=>ls.length-(intOf i).toNat)
 ·exact⟨0,dR _,rfl,xX,(aJ _ w1).grown xY (aI _) (fun k hk=>by cases hk)⟩
 obtain⟨k,hk,rfl,aU,aG⟩:=hrel;have hw:=Nm.jT ls k;have qA:=aG.size
 by_cases bY:k<ls.length
 ·obtain⟨x,hx⟩:=gQ bY;obtain⟨b,off,rfl,aH⟩:=hc (by intro h;rw [h] at bY;simp at bY);have vS:wr.cell? ⟨b,off+k,none⟩=some (.string x):=(aG.cell (fD w1 _ (aH k x hx))).trans (aH k x hx);have HW:Hid (Nm.cK (ls.take (k+1))=Nm.cK (ls.take k)+(1+x.size)):=Nm.JY hx;have HP:Hid (Nm.uE (ls.take (k+1))=Nm.uE (ls.take k)++(UInt8.ofNat x.size::x.data.toList)):=Nm.Gb hx;have KC:Nm.cK (ls.take k)+(1+x.size)<=Nm.cK ls:=by rw [<- HW.out];exact Nm.jT ls (k+1)
  clear hx aH hc FC Xd xX xY;go_wp2_with (first|(at_builtin;refine wpList_append_own _ rfl (.tmp 20) (.tmp 24) 22 rfl w1.heap.size 5 j0 (.int .u8 0) 1 1 Tryz.underlying22 hj k0 k1 k2 rfl (by decide) _ _ _ rfl (aU.alloc _) ⟨wr.heap.size,0,none⟩ 1 1 [.int .u8 (x.size:Int)] rfl rfl (cell_one_new _ _ _) (Nm.one_cell _ rfl) (by unfold maxLen;omega) (by omega) (by simp;omega) ?_;intro va wa uH GQ PE;clear PE;rw [aC2 x (by omega)] at uH;have R1:=Nm.GA (x:=[UInt8.ofNat x.size]) (by simp;omega) (aU.alloc _) (aG.alloc qA _) uH GQ;clear uH GQ)|(at_builtin;refine Go.Lib.wpList_append_own_string _ rfl (.tmp 26) (.tmp 27) 22 9 rfl w1.heap.size 5 j0 Tryz.underlying22 Tryz.underlying9 hj k0 k1 k2 _ _ _ rfl R1.1 x rfl (by unfold maxLen;omega) (by omega) R1.2.size ?_;intro vb wb dO sS GR;clear GR;have R2:=Nm.OM R1.2.size R1.1 R1.2 dO sS;clear dO sS))
  go_roundw
  ·exact⟨k+1,by omega,by go_num,by rw [HW.out,HP.out];simpa [Nat.add_assoc] using R2.1,R2.2⟩
  simp [intOf];omega
 have mK:k=ls.length:=by omega
 subst mK;rw [List.take_length] at aU;clear hc FC Xd xX xY hw bY;have lN:(ByteArray.mk #[0]).size=1:=rfl;go_wp2_with (at_builtin;refine Go.Lib.wpList_append_own_string _ rfl (.tmp 30) _ 22 9 rfl w1.heap.size 5 j0 Tryz.underlying22 Tryz.underlying9 hj k0 k1 k2 _ _ _ rfl aU ⟨#[0]⟩ rfl (by unfold maxLen;omega) (by omega) qA ?_;intro vb wb dO sS GR;clear GR;have R2:=Nm.OM qA aU aG dO sS;clear dO sS;obtain⟨g,cp,rfl,OB⟩:=Nm.OP (P:=Tryz.prog) Tryz.underlying22 Tryz.underlying5 Tryz.underlying9 R2.1 (by omega);rw [lN] at OB)
 go_ret2;rw [HS.out,HC.out];exact⟨rfl,R2.2⟩
def qX(w:World)(g:Nat)(a:Option Addr)(n:Nat):Prop:=
 n=0∨∃ b off,a=some ⟨b,off,none⟩∧b≠g∧∀ i,i<n->∃ c:Int,w.cell? ⟨b,off+i,none⟩=some (.int .u8 c)∧0<=c∧c<256
def Src(w:World)(g:Nat)(a:Option Addr)(n cap:Nat):Prop:=
 ∃ pos st:Int,w.heap[g]? =some (.cells #[.slice a n cap,.int .i64 pos,.int .u64 st] 53 (0,0))∧0<=pos∧pos<=n∧n<=1048577∧qX w g a n
theorem YU{a:Option Addr}(h:qX w g a n):qX (w.setCell ⟨g,i,none⟩ v) g a n:=by
 rcases h with h|⟨b,off,e,hb,hc⟩
 ·exact .inl h
 refine .inr ⟨b,off,e,hb,fun j hj=>?_⟩;obtain⟨c,h1,h2⟩:=hc j hj;refine⟨c,?_,h2⟩;rw [World.cell?_setCell_other w ⟨g,i,none⟩ ⟨b,off+j,none⟩ v (by intro h;cases h;exact hb rfl)];exact h1
theorem aHn{a:Option Addr}{pos st:Int}(hb:w.heap[g]? =some (.cells #[.slice a n cap,.int .i64 pos,.int .u64 st] 53 (0,0)))(YV:0<=pos)(hpn:pos<=n)(hn:n<=1048577)(hc:qX w g a n)(s2:Int):
 Src (w.setCell ⟨g,2,none⟩ (.int .u64 s2)) g a n cap∧w.grownBy (w.setCell ⟨g,2,none⟩ (.int .u64 s2)) (some g):=by
 refine⟨⟨pos,s2,?_,YV,hpn,hn,YU hc⟩,⟨rfl,rfl,rfl,by simp,fun k _ hk=>heap_setCell_other w ⟨g,2,none⟩ k _ (fun e=>hk (by simp [e]))⟩⟩;rw [heap_setCell_same w g 2 _ _ _ hb];rfl
theorem aHo{a:Option Addr}{pos st:Int}(hb:w.heap[g]? =some (.cells #[.slice a n cap,.int .i64 pos,.int .u64 st] 53 (0,0)))(hn:n<=1048577)(hc:qX w g a n)(s2 p2:Int)(YV:0<=p2)(hpn:p2<=n):
 Src ((w.setCell ⟨g,2,none⟩ (.int .u64 s2)).setCell ⟨g,1,none⟩ (.int .i64 p2)) g a n cap∧w.grownBy ((w.setCell ⟨g,2,none⟩ (.int .u64 s2)).setCell ⟨g,1,none⟩ (.int .i64 p2)) (some g):=by
 have h1:=heap_setCell_same w g 2 _ _ (.int .u64 s2) hb;have h2:=heap_setCell_same _ g 1 _ _ (.int .i64 p2) h1;refine⟨⟨p2,s2,?_,YV,hpn,hn,YU (YU hc)⟩,⟨rfl,rfl,rfl,by simp,fun k _ hk=>?_⟩⟩
 ·rw [h2];rfl
 rw [heap_setCell_other _ ⟨g,1,none⟩ k _ (fun e=>hk (by simp [e])),heap_setCell_other w ⟨g,2,none⟩ k _ (fun e=>hk (by simp [e]))]
theorem zN{w':World}{row:Option Nat}(h:w.grownBy w' row):w.grownBy w'.drew row:=⟨h.os,h.tape,h.output,h.size,h.block⟩
theorem aS(h:w.grownBy w1 (some g))(h2:w1.grownBy w2 (some g)):w.grownBy w2 (some g):=
 ⟨h2.os.trans h.os,h2.tape.trans h.tape,h2.output.trans h.output,jN h.size h2.size,fun k hk dM=>(h2.block k (vF hk h.size) dM).trans (h.block k hk dM)⟩
theorem BJ{row:Option Nat}(h:w.grownBy w1 (some g))(h2:w1.grownBy w2 row)(hr:∀ k,row=some k->w.heap.size<=k):w.grownBy w2 (some g):=
 ⟨h2.os.trans h.os,h2.tape.trans h.tape,h2.output.trans h.output,jN h.size h2.size,fun k hk dM=>
  (h2.block k (vF hk h.size) (fun e=>by have:=hr k e.symm;omega)).trans (h.block k hk dM)⟩
theorem bJ(h:w.grownBy w1 (some g))(h2:Below w1.heap.size w1 w2):w.grownBy w2 (some g):=
 ⟨h2.os.trans h.os,h2.tape.trans h.tape,h2.output.trans h.output,jN h.size h2.size,fun k hk dM=>
  (h2.block k (vF hk h.size)).trans (h.block k hk dM)⟩
theorem dP(h:w.grownBy w1 (some g))(o:Obj):w.grownBy (w1.alloc o) (some g):=
 bJ h ((aJ _ _).alloc (aI _) o)
theorem aZ{a:Option Addr}(h:Src w g a n cap)(hb:Below w.heap.size w w1):Src w1 g a n cap:=by
 obtain⟨pos,st,h1,h2,h3,h4,h5⟩:=h;refine⟨pos,st,?_,h2,h3,h4,?_⟩
 ·rw [hb.block g (Array.getElem?_eq_some_iff.1 h1).1];exact h1
 rcases h5 with h5|⟨b,off,e,dM,hc⟩
 ·exact .inl h5
 refine .inr ⟨b,off,e,dM,fun j hj=>?_⟩;obtain⟨c,mQ,vI⟩:=hc j hj;exact⟨c,(hb.cell (fD w _ mQ)).trans mQ,vI⟩
theorem KF{w0:World}{a:Option Addr}{row:Option Nat}(h:Src w g a n cap)(hg:w.grownBy w1 row)(hr:∀ k,row=some k->w0.heap.size<=k)(bY:g<w0.heap.size)(gJ:qX w0 g a n):Src w1 g a n cap:=by
 obtain⟨pos,st,h1,h2,h3,h4,h5⟩:=h;refine⟨pos,st,?_,h2,h3,h4,?_⟩
 ·rw [hg.block g (Array.getElem?_eq_some_iff.1 h1).1 (fun e=>by have:=hr g e.symm;omega)];exact h1
 rcases h5 with h5|⟨b,off,e,dM,hc⟩
 ·exact .inl h5
 rcases gJ with h6|⟨b',off',e',_,AX⟩
 ·exact .inl h6
 rw [e] at e';simp only [mV,Addr.mk.injEq,and_true] at e';obtain⟨rfl,rfl⟩:=e';refine .inr ⟨b,off,e,dM,fun j hj=>?_⟩;obtain⟨c,mQ,vI⟩:=hc j hj;obtain⟨c',aQl,_⟩:=AX j hj;have X9:=fD w0 _ aQl;exact⟨c,hg.cell mQ (fun e=>by have h7:=hr b e.symm;have h8:b<w0.heap.size:=X9;omega),vI⟩
theorem qK{a:Option Addr}(h:Src w g a n cap):qX w g a n∧g<w.heap.size:=by
 obtain⟨pos,st,h1,h2,h3,h4,h5⟩:=h;exact⟨h5,(Array.getElem?_eq_some_iff.1 h1).1⟩
theorem lW{B e m:Nat}{a:Option Addr}{xs:List Value}(h:w.ownsRow B e 1 v m xs)(hs:Src w g a n cap)(dM:e≠53):v.ownBlock=none∨v.ownBlock≠some g:=by
 obtain⟨pos,st,h1,_⟩:=hs
 rcases h.2 with⟨rfl,_⟩|⟨g',cap',cur,rfl,_,hh,_⟩
 ·exact .inl rfl
 right;simp only [Value.ownBlock,ne_eq,mV];intro e2;subst e2;rw [hh] at h1;simp at h1;exact dM h1.2
theorem YW{x N:Int}(hx:0<=x)(h1:1<=N)(h2:N<=4294967296):0<=wrap64 (x.tmod N)∧wrap64 (x.tmod N)<N:=by
 have a1:0<=x.tmod N:=Int.tmod_nonneg N hx;have a2:x.tmod N<N:=Int.tmod_lt_of_pos x (by omega);rw [IntWalk.wrap64_in (x.tmod N) ⟨by omega,by omega⟩];exact⟨a1,a2⟩
theorem aKn(k:Int):0<=IntKind.u64.wrap k:=(bounds_u64 (wf_wrap .u64 k)).1
theorem aHp(op:BinOp)(x y:Int):0<=bits op .u64 x y:=(bounds_u64 (wf_bits op .u64 x y)).1
theorem aW(g:Nat)(a:Option Addr)(n cap:Nat)(N:Int)(w:World)(h:Src w g a n cap)(hN:N<=4294967296):
 Calls Tryz.prog 18 #[.pointer (some ⟨g,0,none⟩),.int .i64 N] w fun e w'=>∃ r:Int,e=.returned (.int .i64 r)∧0<=r∧(0<N->r<N)∧Src w' g a n cap∧w.grownBy w' (some g):=by
 obtain⟨pos,st,hb,YV,hpn,hn,gJ⟩:=h
 by_cases hN0:N<=0
 ·go_enter Tryz.func18,Tryz.ntmps18;go_wp2;go_ret;exact⟨0,rfl,by omega,by omega,⟨pos,st,hb,YV,hpn,hn,gJ⟩,World.grownBy.refl _ _⟩
 have c0:w.cell? ⟨g,0,none⟩=some (.slice a n cap):=by rw [cell_of_row _ _ _ _ _ _ hb];rfl
 have c1:w.cell? ⟨g,1,none⟩=some (.int .i64 pos):=by rw [cell_of_row _ _ _ _ _ _ hb];rfl
 have c2:w.cell? ⟨g,2,none⟩=some (.int .u64 st):=by rw [cell_of_row _ _ _ _ _ _ hb];rfl
 have f1:=frozen_of_row w g 1 _ _ hb;have f2:=frozen_of_row w g 2 _ _ hb;have hN1:1<=N:=by omega
 by_cases bY:pos<n
 ·obtain⟨b,off,rfl,Dj,aH⟩:=gJ.resolve_left (by omega);obtain⟨k,rfl⟩:=Int.eq_ofNat_of_zero_le YV;obtain⟨c,hc,PG,mQ⟩:=aH k (by omega);have HS:=fun s2=>Nm.aD (aHo hb hn gJ s2 ((k:Int)+1) (by omega) (by omega))
  clear hb gJ;go_enter Tryz.func18,Tryz.ntmps18;go_wp2;go_region
  go_wp2;go_region
  go_wp2;go_ret;have B:=YW (N:=N) (aHp .xor (IntKind.u64.wrap (IntKind.u64.wrap (st*6364136223846793005)+1442695040888963407) / 8589934592) c) hN1 hN;exact⟨_,rfl,B.1,fun _=>B.2,(HS _).out.1,zN (zN (HS _).out.2)⟩
 have HS:=fun s2=>Nm.aD (aHn hb YV hpn hn gJ s2)
 have K6:(n:Int)<=pos:=by omega
 clear hb gJ;go_enter Tryz.func18,Tryz.ntmps18;go_wp2;go_region
 go_wp2;go_ret;have B:=YW (N:=N) (x:=IntKind.u64.wrap (IntKind.u64.wrap (st*6364136223846793005)+1442695040888963407) / 8589934592) (Int.ediv_nonneg (aKn _) (by decide)) hN1 hN;exact⟨_,rfl,B.1,fun _=>B.2,(HS _).out.1,zN (HS _).out.2⟩
theorem DV(l:List UInt8):(⟨l.toArray⟩:ByteArray).size=l.length:=by show l.toArray.size=_;simp
namespace Nm
def marks:List UInt8:=[46,92,34,59,40,41,64,36]
theorem Oj(c:UInt8):[Value.int .u8 (c.toNat:Int)]=LF [c]:=rfl
end Nm
theorem Tryz.K7:(Tryz.prog.info? 5).map (fun i=>(i.zero,i.size,i.bytes))=some (some (.int .u8 0),1,1):=by kernel_rfl
theorem Ol(c:Nat)(W:World):(convert 22 9 (.slice (some ⟨c,0,none⟩) 0 0)).run Tryz.prog W=.ok (.string ByteArray.empty) W:=
 run_convert_bytes_back W 22 9 5 ⟨c,0,none⟩ 0 [] Tryz.underlying22 Tryz.underlying5 Tryz.underlying9 (by intro j hj;simp at hj)
theorem zO{r:Int}(h0:0<=r)(h1:r<256):∃ c:UInt8,(c.toNat:Int)=r:=by
 refine⟨UInt8.ofNat r.toNat,?_⟩;simp
 omega
theorem fG(g:Nat)(a:Option Addr)(n cap:Nat)(N:Int)(w:World)(h:Src w g a n cap)(hN0:0<=N)(hN:N<=1048576):
 Calls Tryz.prog 20 #[.pointer (some ⟨g,0,none⟩),.int .i64 N] w fun e w'=>∃ s:ByteArray,e=.returned (.string s)∧(s.size:Int)=N∧Src w' g a n cap∧w.grownBy w' (some g):=by
 obtain⟨j0,hj,k0,k1,k2⟩:=info_parts Tryz.K7;obtain⟨m,rfl⟩:=Int.eq_ofNat_of_zero_le hN0;have hcd:=qK h
 by_cases hz:m=0
 ·subst hz;have OB:=fun W=>Ol w.heap.size W
  go_enter Tryz.func20,Tryz.ntmps20;go_wp2
  go_loop [5,6] (fun v i=>v=.slice (some ⟨w.heap.size,0,none⟩) 0 0∧i=.int .i64 0) (fun _ _=>0)
  ·exact⟨rfl,rfl⟩
  obtain⟨rfl,rfl⟩:=hrel;go_wp2;go_ret;exact⟨ByteArray.empty,rfl,rfl,aZ h ((aJ _ _).alloc (aI _) _),dP (World.grownBy.refl _ _) _⟩
 go_enter Tryz.func20,Tryz.ntmps20;go_wp2
 go_loopw [5,6] (fun v i wr=>∃ (k:Nat) (l:List UInt8),k<=m∧i=.int .i64 k∧wr.ownsRow w.heap.size 5 1 v k (Nm.LF l)∧Src wr g a n cap∧w.grownBy wr (some g))
  (fun _ i _=>m-(intOf i).toNat)
 ·exact⟨0,[],dR _,rfl,World.ownsRow_made w #[] 0 (aI _) (by decide) rfl,aZ h ((aJ _ _).alloc (aI _) _),dP (World.grownBy.refl _ _) _⟩
 obtain⟨k,l,hk,rfl,aU,kK,qB⟩:=hrel;clear h
 by_cases bY:k<m
 ·go_wp2_with (first|(go_at_call 18;refine(aW g a n cap 256 _ kK (by decide)).mono ?_;rintro e w3 ⟨r,rfl,GU,uG,YX,Iy⟩;have wR:=uG (by decide);obtain⟨c,hc⟩:=zO GU wR;subst hc;have gW:=aU.kept Iy (lW aU kK (by decide));have iZ:=aS qB Iy;have YY:=iZ.size;clear uG)|(at_builtin;refine wpList_append_own _ rfl (.tmp 13) (.tmp 17) 22 rfl w.heap.size 5 j0 (.int .u8 0) 1 1 Tryz.underlying22 hj k0 k1 k2 rfl (by decide) _ _ _ rfl (gW.alloc _) ⟨w3.heap.size,0,none⟩ 1 1 [.int .u8 (c.toNat:Int)] rfl rfl (cell_one_new _ _ _) (Nm.one_cell _ rfl) (by unfold maxLen;omega) (by omega) (by simp;omega) ?_;intro vb wb jR nP Iz;clear Iz;have dI:∀ q,Value.ownBlock _=some q->w.heap.size<=q:=fun q hq=>(gW.lt q hq).1;have OD:=KF (aZ YX ((aJ _ _).alloc (aI _) _)) nP dI hcd.2 hcd.1;have LH:=BJ (dP iZ _) nP dI;rw [Nm.Oj,<- Nm.DJ] at jR;clear nP gW))
  go_roundw
  ·exact⟨k+1,_,by omega,by go_num,jR,OD,LH⟩
  simp [intOf];omega
 have FE:k=m:=by omega
 subst FE;have YQ:l.length=k:=by have:=aU.1;rw [Nm.xU] at this;omega
 obtain⟨g6,cp6,rfl,OB⟩:=Nm.OP (P:=Tryz.prog) Tryz.underlying22 Tryz.underlying5 Tryz.underlying9 aU (by omega);have hms:=DV l;clear aU bY;go_wp2;go_ret;exact⟨_,rfl,by rw [hms];omega,kK,qB⟩
structure Only (p:Nat) (w w':World):Prop where
 os:w'.os=w.os
 tape:w'.tape=w.tape
 output:w'.output=w.output
 size:w.heap.size<=w'.heap.size
 block:∀ k,k<w.heap.size->k≠p->w'.heap[k]? =w.heap[k]?
namespace Nm
section
variable {s:ByteArray}{st:Bool}{k:Nat}{now:List UInt8}{done:List ByteArray}
end
