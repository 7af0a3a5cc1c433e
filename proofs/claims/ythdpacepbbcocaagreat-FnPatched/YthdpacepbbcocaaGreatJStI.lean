import Derived.Test.YthdpacepbbcocaaGreatJTrD
import Derived.Test.YthdpacepbbcocaaGreatDlM
set_option linter.unusedVariables false
set_option maxRecDepth 100000
set_option maxHeartbeats 3200000
namespace Go.Proofs.YthdpacepbbcocaaGreat
open Go.RowKit
def xM(r:Rr):Bool:=decide (r.ty=6)
def fA(s:Sz):List Rr:=s.da.map fun d=>⟨s.own,s.ty,1,s.tt,d⟩
def dI(ps:List Zp):List Rr:=ps.flatMap fun p=>fA p.1
def jD:List Zp->Nat
 |[]=>0
 |x::xs=>x.1.da.length+jD xs
def aD(ps:List Zp):List Rr:=if 500<ps.length∨500<jD ps then [] else dI ps
theorem qP(s:Sz):(fA s).length=s.da.length:=by simp [fA]
theorem WJ{s:Sz}{k:Nat}{d:ByteArray}(h:s.da[k]? =some d):(fA s).take (k+1)=(fA s).take k++[⟨s.own,s.ty,1,s.tt,d⟩]:=by
 rw [List.take_add_one];congr 1;simp [fA,h]
theorem GY:∀ (xs:List Zp) (k:Nat) (x:Zp),xs[k]? =some x->jD (xs.take (k+1))=jD (xs.take k)+x.1.da.length:=by
 intro xs
 induction xs with
 |nil=>intro k x h;simp at h
 |cons y xs ih=>
  intro k x h
  cases k with
  |zero=>simp at h;subst h;simp [jD]
  |succ k=>
   simp at h;have:=ih k x h;simp only [List.take_succ_cons,jD];omega
theorem vN:∀ (xs:List Zp) (k:Nat),jD (xs.take k)<=jD xs:=by
 intro xs
 induction xs with
 |nil=>intro k;simp [jD]
 |cons y xs ih=>
  intro k
  cases k with
  |zero=>simp [jD]
  |succ k=>have:=ih k;simp only [List.take_succ_cons,jD];omega
theorem aJ8(ps:List Zp):jD ps<=rG ps:=by
 induction ps with
 |nil=>simp [jD,rG]
 |cons y ps ih=>simp only [jD,rG,zs1];omega
theorem MO{ps:List Zp}{k:Nat}{x:Zp}(h:ps[k]? =some x):dI (ps.take (k+1))=dI (ps.take k)++fA x.1:=by
 rw [List.take_add_one,h];simp [dI]
theorem uK(ps:List Zp):(dI ps).length=jD ps:=by
 induction ps with
 |nil=>rfl
 |cons y ps ih=>
  have:dI (y::ps)=fA y.1++dI ps:=by simp [dI]
  rw [this,nG,qP,ih,jD]
theorem aMt(r:Rr):∀ u∈Ju r,u.oneCell'=true:=by
 intro u hu;simp [Ju] at hu
 rcases hu with rfl|rfl|rfl|rfl|rfl<;>rfl
theorem aJ9(xs:List Rr):∀ u∈bK xs,u.oneCell'=true:=by
 intro u hu;simp only [bK,List.mem_flatMap] at hu;obtain⟨r,_,h⟩:=hu;exact aMt r u h
theorem dU(w:World)(cs:Array Value)(e:Nat):∀ (j:Nat) (u:Value),cs.toList[j]? =some u->(w.alloc (.cells cs e)).cell? ((⟨w.heap.size,0,none⟩:Addr).add j)=some u:=by
 intro j u h;rw [Nm.addr_add,Nat.zero_add];have:(w.alloc (.cells cs e)).heap[w.heap.size]? =some (.cells cs e (0,0)):=by show(w.heap.push _)[w.heap.size]? =_;simp
 rw [cell_of_row _ _ _ _ _ _ this];simpa using h
theorem WK{d:ByteArray}(h:bQ 6 d=0):22<=d.size∧d.size<=65535:=by
 rw [bQ,if_neg (by omega)] at h
 by_cases hl:65535<d.size
 ·rw [if_pos hl] at h;omega
 rw [if_neg hl] at h;refine⟨?_,by omega⟩
 cases hq:Dt.spans (Dt.lM 6) 0 d with
 |none=>rw [hq] at h;simp at h
 |some sp=>
  have e:Dt.lM 6=[.nm,.nm,.bs 20]:=rfl;rw [e] at hq;simp only [Dt.spans,Dt.sz] at hq
  by_cases h1:(Dt.dG d).size=0
  ·simp [h1] at hq
  simp only [h1,if_false] at hq
  by_cases h2:(Dt.dG (d.extract (Dt.dG d).size d.size)).size=0
  ·simp [h2] at hq
  simp only [h2,if_false] at hq;have l1:=Dt.TP d;have l2:=Dt.TP (d.extract (Dt.dG d).size d.size);have z1:(d.extract (Dt.dG d).size d.size).size=d.size-(Dt.dG d).size:=by simp
  generalize (d.extract (Dt.dG d).size d.size)=d1 at*;have z2:(d1.extract (Dt.dG d1).size d1.size).size=d1.size-(Dt.dG d1).size:=by simp
  rw [z2] at hq
  by_cases h3:20<=d1.size-(Dt.dG d1).size
  ·omega
  rw [if_neg h3] at hq;simp at hq
theorem GZ{α:Type}{l:List α}{j:Nat}{x:α}(h:l[j]? =some x)(y:α):l=l.take j++[x]++l.drop (j+1)∧l.set j y=l.take j++[y]++l.drop (j+1):=by
 obtain⟨hj,e⟩:=dK h;constructor
 ·rw [List.append_assoc,List.singleton_append,<- e,List.getElem_cons_drop,List.take_append_drop]
 rw [List.set_eq_take_append_cons_drop,if_pos hj,List.append_assoc];rfl
theorem aGe{N:Nat}{X A A' Y:List Nat}(h:(X++(A++Y)).Nodup)(bV:∀ x∈X++(A++Y),x<N)(hA:A'.Nodup)(hm:∀ a∈A',a∈A∨N<=a):(X++(A'++Y)).Nodup:=by
 rw [List.nodup_append,List.nodup_append] at h;obtain⟨hX,⟨hA0,hY,hAY⟩,hXA⟩:=h;rw [List.nodup_append,List.nodup_append];refine⟨hX,⟨hA,hY,fun a ha b hb=>?_⟩,fun a ha b hb=>?_⟩
 ·rcases hm a ha with h1|h1
  ·exact hAY a h1 b hb
  have:=bV b (by simp [hb]);omega
 rcases jS hb with hb|hb
 ·rcases hm b hb with h1|h1
  ·exact hXA a ha b (List.mem_append.2 (.inl h1))
  have:=bV a (by simp [ha]);omega
 exact hXA a ha b (List.mem_append.2 (.inr hb))
theorem aMu{w w':World}{B:Nat}{o:eZ}{j:Nat}{s s':tZ}{F:List Nat}(h:BN w B o)(JY:(pO o).Nodup)(hj:o.ss[j]? =some s)(hs:Ag w' B s')(hb:s'.dL=s.dL)(ht:s'.ty=s.ty)(hn:(vV s').Nodup)
 (hm:∀ b∈vV s',b∈vV s∨w.heap.size<=b) (hF:dM F w w') (hFo:∀ b∈F,b∈pO o->b∈vV s):
 BN w' B {o with ss:=o.ss.set j s'}∧(pO {o with ss:=o.ss.set j s'}).Nodup∧∀ b∈pO {o with ss:=o.ss.set j s'},b∈pO o∨w.heap.size<=b:=by
 obtain⟨e1,e2⟩:=GZ hj s'
 have f1:pO o=(o.dL::o.hd::(o.rv.ownBlock.toList++(o.ss.take j).flatMap vV))++(vV s++(o.ss.drop (j+1)).flatMap vV):=by
  conv=>lhs;rw [pO,e1]
  simp
 have f2:pO {o with ss:=o.ss.set j s'}=(o.dL::o.hd::(o.rv.ownBlock.toList++(o.ss.take j).flatMap vV))++(vV s'++(o.ss.drop (j+1)).flatMap vV):=by
  show o.dL::o.hd::(o.rv.ownBlock.toList++(o.ss.set j s').flatMap vV)=_
  rw [e2];simp
 have Gl:=JY;rw [f1] at Gl;have bV:∀ x∈(o.dL::o.hd::(o.rv.ownBlock.toList++(o.ss.take j).flatMap vV))++(vV s++(o.ss.drop (j+1)).flatMap vV),x<w.heap.size:=fun x hx=>h.lt x (by rw [f1];exact hx)
 have Nf:∀ b,b∈(o.dL::o.hd::(o.rv.ownBlock.toList++(o.ss.take j).flatMap vV))∨b∈(o.ss.drop (j+1)).flatMap vV->b∉vV s:=by
  intro b hb Mw;rw [List.nodup_append,List.nodup_append] at Gl;obtain⟨_,⟨_,_,h3⟩,h4⟩:=Gl
  rcases hb with hb|hb
  ·exact h4 b hb b (List.mem_append.2 (.inl Mw)) rfl
  exact h3 b Mw b hb rfl
 have keep:∀ b∈pO o,b∉vV s->w'.heap[b]? =w.heap[b]? :=fun b hbo Mw=>hF.block b (h.lt b hbo) (fun hbF=>Mw (hFo b hbF hbo))
 refine⟨⟨?_,?_,?_,?_⟩,?_,?_⟩
 ·exact kG h.node (keep _ (by simp [pO]) (Nf _ (.inl (by simp))))
 ·exact kG h.head (keep _ (by simp [pO]) (Nf _ (.inl (by simp))))
 ·have e3:mQ (o.ss.set j s')=mQ o.ss:=by
   rw [e2]
   conv=>rhs;rw [e1]
   simp [mQ,hb,ht]
  show w'.ownsRow B _ 2 o.rv (mQ (o.ss.set j s')).length (eD (mQ (o.ss.set j s')))
  rw [e3];refine zT h.rows (fun b yZ=>keep b (by simp only [pO,List.mem_cons,List.mem_append];exact .inr (.inr (.inl yZ))) (Nf b (.inl (by simp only [List.mem_cons,List.mem_append];exact .inr (.inr (.inl yZ))))))
 ·intro t htm;have aMv:t∈o.ss.set j s':=htm;rw [e2] at aMv;simp only [List.mem_append,List.mem_singleton] at aMv
  have old:∀ t∈o.ss,(t∈o.ss.take j∨t∈o.ss.drop (j+1))->Ag w' B t:=by
   intro t hto PE;refine(h.sets t hto).keep (fun b yZ=>keep b (by simp only [pO,List.mem_cons,List.mem_append,List.mem_flatMap];exact .inr (.inr (.inr ⟨t,hto,yZ⟩))) (Nf b ?_))
   rcases PE with PE|PE
   ·left;simp only [List.mem_cons,List.mem_append,List.mem_flatMap];exact .inr (.inr (.inr ⟨t,PE,yZ⟩))
   right;exact List.mem_flatMap.2 ⟨t,PE,yZ⟩
  rcases aMv with(PE|rfl)|PE
  ·exact old t (List.mem_of_mem_take PE) (.inl PE)
  ·exact hs
  exact old t (List.mem_of_mem_drop PE) (.inr PE)
 ·rw [f2];exact aGe Gl bV hn hm
 intro b yZ;rw [f2] at yZ;rw [f1]
 rcases jS yZ with yZ|yZ
 ·exact .inl (List.mem_append.2 (.inl yZ))
 rcases jS yZ with yZ|yZ
 ·rcases hm b yZ with h1|h1
  ·exact .inl (List.mem_append.2 (.inr (List.mem_append.2 (.inl h1))))
  exact .inr h1
 exact .inl (List.mem_append.2 (.inr (List.mem_append.2 (.inr yZ))))
theorem Ng{w w':World}{B th:Nat}{rv:Value}{os:List eZ}{p:Nat}{o o':eZ}{F:List Nat}(h:uU w B th rv os)(hp:os[p]? =some o)(ho:BN w' B o')(hb:o'.dL=o.dL)(hl:o'.lv=o.lv)(hn:(pO o').Nodup)
 (hm:∀ b∈pO o',b∈pO o∨w.heap.size<=b) (hF:dM F w w') (hFo:∀ b∈F,b∈jP th rv os->b∈pO o):
 uU w' B th rv (os.set p o')∧∀ b∈jP th rv (os.set p o'),b∈jP th rv os∨w.heap.size<=b:=by
 obtain⟨e1,e2⟩:=GZ hp o'
 have f1:jP th rv os=(th::(rv.ownBlock.toList++(os.take p).flatMap pO))++(pO o++(os.drop (p+1)).flatMap pO):=by
  conv=>lhs;rw [jP,e1]
  simp
 have f2:jP th rv (os.set p o')=(th::(rv.ownBlock.toList++(os.take p).flatMap pO))++(pO o'++(os.drop (p+1)).flatMap pO):=by
  rw [jP,e2];simp
 have Gl:=h.nodup;rw [f1] at Gl;have bV:∀ x∈(th::(rv.ownBlock.toList++(os.take p).flatMap pO))++(pO o++(os.drop (p+1)).flatMap pO),x<w.heap.size:=fun x hx=>h.lt x (by rw [f1];exact hx)
 have Nf:∀ b,b∈(th::(rv.ownBlock.toList++(os.take p).flatMap pO))∨b∈(os.drop (p+1)).flatMap pO->b∉pO o:=by
  intro b hb Mw;rw [List.nodup_append,List.nodup_append] at Gl;obtain⟨_,⟨_,_,h3⟩,h4⟩:=Gl
  rcases hb with hb|hb
  ·exact h4 b hb b (List.mem_append.2 (.inl Mw)) rfl
  exact h3 b Mw b hb rfl
 have keep:∀ b∈jP th rv os,b∉pO o->w'.heap[b]? =w.heap[b]? :=fun b hbo Mw=>hF.block b (h.lt b hbo) (fun hbF=>Mw (hFo b hbF hbo))
 refine⟨⟨?_,?_,?_,?_⟩,?_⟩
 ·exact kG h.head (keep _ (by simp [jP]) (Nf _ (.inl (by simp))))
 ·have e3:mR (os.set p o')=mR os:=by
   rw [e2]
   conv=>rhs;rw [e1]
   simp [mR,hb,hl]
  rw [e3];refine zT h.rows (fun b yZ=>keep b (by simp only [jP,List.mem_cons,List.mem_append];exact .inr (.inl yZ)) (Nf b (.inl (by simp only [List.mem_cons,List.mem_append];exact .inr (.inl yZ)))))
 ·intro t htm;rw [e2] at htm;simp only [List.mem_append,List.mem_singleton] at htm
  have old:∀ t∈os,(t∈os.take p∨t∈os.drop (p+1))->BN w' B t:=by
   intro t hto PE;refine(h.mU t hto).keep (fun b yZ=>keep b (by simp only [jP,List.mem_cons,List.mem_append,List.mem_flatMap];exact .inr (.inr ⟨t,hto,yZ⟩)) (Nf b ?_))
   rcases PE with PE|PE
   ·left;simp only [List.mem_cons,List.mem_append,List.mem_flatMap];exact .inr (.inr ⟨t,PE,yZ⟩)
   right;exact List.mem_flatMap.2 ⟨t,PE,yZ⟩
  rcases htm with(PE|rfl)|PE
  ·exact old t (List.mem_of_mem_take PE) (.inl PE)
  ·exact ho
  exact old t (List.mem_of_mem_drop PE) (.inr PE)
 ·rw [f2];exact aGe Gl bV hn hm
 intro b yZ;rw [f2] at yZ;rw [f1]
 rcases jS yZ with yZ|yZ
 ·exact .inl (List.mem_append.2 (.inl yZ))
 rcases jS yZ with yZ|yZ
 ·rcases hm b yZ with h1|h1
  ·exact .inl (List.mem_append.2 (.inr (List.mem_append.2 (.inl h1))))
  exact .inr h1
 exact .inl (List.mem_append.2 (.inr (List.mem_append.2 (.inr yZ))))
open Go.Shelf
attribute [local go_sem] Oper.semAt_some
def Va{α:Type}(kf vf:α->ByteArray)(n₀:Nat)(W:World)(sv:Value)(zs:List α):Prop:=
 (sv=.slice none 0 0∧zs=[])∨∃ b off cap,sv=.slice (some ⟨b,off,none⟩) zs.length cap∧b<n₀∧(zs.length<=cap∧cap<=maxLen)∧
  ∀ (i:Nat) (x:α),zs[i]? =some x->W.cell? ⟨b,off+i*2,none⟩=some (Value.string (kf x))∧W.cell? ⟨b,off+i*2+1,none⟩=some (Value.string (vf x))
theorem Va.below{α:Type}{kf vf:α->ByteArray}{n₀:Nat}{W W':World}{sv:Value}{zs:List α}(h:Va kf vf n₀ W sv zs)(hB:Below n₀ W W'):Va kf vf n₀ W' sv zs:=by
 rcases h with h|⟨b,off,cap,e,hb,QN,hc⟩
 ·exact .inl h
 exact .inr ⟨b,off,cap,e,hb,QN,fun i x hx=>⟨(hB.cell (p:=⟨b,off+i*2,none⟩) hb).trans (hc i x hx).1,(hB.cell (p:=⟨b,off+i*2+1,none⟩) hb).trans (hc i x hx).2⟩⟩
theorem aGf{α:Type}(kf vf:α->ByteArray){w:World}{B e:Nat}{v:Value}(zs:List α)(h:w.ownsRow B e 2 v zs.length (eD (zs.map fun x=>((Value.string (kf x)),(Value.string (vf x)))))):Va kf vf w.heap.size w v zs:=by
 have h':=h
 rcases h.2 with⟨rfl,h0⟩|⟨q,cap,cur,rfl,hb,hh,iK,mD,oZ,ht⟩
 ·exact .inl ⟨rfl,List.length_eq_zero_iff.1 h0⟩
 refine .inr ⟨q,0,cap,rfl,(Array.getElem?_eq_some_iff.1 hh).1,⟨iK,mD⟩,fun i x hx=>?_⟩;have hi:=(dK hx).1;have hm:(zs.map fun x=>((Value.string (kf x)),(Value.string (vf x))))[i]? =some ((Value.string (kf x)),(Value.string (vf x))):=by simp [hx]
 have a0:=eY _ i 0 _ hm (by decide);have a1:=eY _ i 1 _ hm (by decide);have c0:=h'.cellAt (i*2) (by omega);have c1:=h'.cellAt (i*2+1) (by omega);exact⟨by rw [Nat.zero_add,c0];exact a0,by rw [Nat.zero_add,c1];exact a1⟩
theorem aCp{α:Type}(F:Fence)(n:Nat)(h7:F.fn 192)(xK:F.round=none)(l tb g:Nat)(J:List α->World->Prop)(W:World)
 (kb:W.cell? ⟨tb,0,none⟩=some (.pointer (some ⟨g,0,none⟩))) (kg:W.cell? ⟨g,1,none⟩=some (.slice none 0 0)) (h0:J [] W):
 CallsIn F n Tryz.prog 192 #[.func (.yield l) #[] #[],.pointer (some ⟨tb,0,none⟩)] W fun e W'=>(∃ v,e=.returned v)∧J [] W':=by
 refine callsIn_of_wp Tryz.func192 rfl h7 ?_ xK;simp only [Tryz.ntmps192,List.size_toArray,List.length_cons,List.length_nil,Nat.reduceAdd,Nat.reduceSub,Array.replicate_succ,Array.replicate_zero,List.push_toArray,List.append_toArray,List.nil_append,List.cons_append]
 gi_wp2
 gi_loopw [10] (fun i wr=>i=.int .i64 0∧J [] wr) (fun _ _=>0)
 case atStart=>exact⟨rfl,h0⟩
 obtain⟨rfl,Li⟩:=hrel
 gi_wp2
 go_end0
 exact⟨⟨_,rfl⟩,Li⟩
theorem aKa(F:Fence)(n:Nat)(h6:F.fn 175)(xK:F.round=none)(p:Option Addr)(w:World):
 CallsIn F n Tryz.prog 175 #[.pointer p] w fun e w'=>e=.returned (.func (.func 192) #[] #[.pointer (some ⟨w.heap.size,0,none⟩)])∧w'=w.alloc (.cells #[.pointer p] 174):=by
 refine callsIn_of_wp Tryz.func175 rfl h6 ?_ xK;simp only [Tryz.ntmps175,List.size_toArray,List.length_cons,List.length_nil,Nat.reduceAdd,Nat.reduceSub,Array.replicate_succ,Array.replicate_zero,List.push_toArray,List.append_toArray,List.nil_append,List.cons_append]
 gi_wp2
 go_ret;exact⟨rfl,rfl⟩
theorem aCq{α:Type}(kf vf:α->ByteArray)(F:Fence)(n:Nat)(h7:F.fn 192)(xK:F.round=none)(hn:1<=n)(tb g n₀:Nat)(sv:Value)(zs:List α)(hl:zs.length<=1000000)(w:World)(htb:tb<w.heap.size)(hg:g<n₀)(hn₀:n₀<=w.heap.size)
 (kb:w.cell? ⟨tb,0,none⟩=some (.pointer (some ⟨g,0,none⟩))) (kg:w.cell? ⟨g,1,none⟩=some sv) (hR:Va kf vf n₀ w sv zs):
 SeqStopsK F n Tryz.prog 192 #[.pointer (some ⟨tb,0,none⟩)] (fun x:α=>#[(Value.string (kf x)),(Value.string (vf x))]) (Below n₀) (fun ys=>ys=zs) (fun pre=>pre<+:zs) zs.length w:=fun l J Jx W hW hJ _ hY h0=>by
 have kb':=(hW.cell (p:=⟨tb,0,none⟩) htb).trans kb;have kg':=(hW.cell (p:=⟨g,1,none⟩) (sP hg hn₀)).trans kg
 rcases hR.below (hW.mono hn₀) with⟨rfl,rfl⟩|⟨b,off,cap,rfl,hb,QN,oZ⟩
 ·exact(aCp F n h7 xK l tb g J W kb' kg' h0).mono fun e W' ⟨he,hj⟩=>⟨he,.inl ⟨_,rfl,hj⟩⟩
 exact all1S_in kf vf F n h7 xK hn l tb g n₀ b off cap (.pointer none) zs hl QN hb J Jx (fun s W1 W2 hs nH=>hJ s W1 W2 none hs nH (fun r e=>by cases e)) hY W kb' kg' oZ (iL hn₀ hW.size) h0
end Go.Proofs.YthdpacepbbcocaaGreat
namespace Go.Proofs.YthdpacepbbcocaaGreat
open Go.RowKit Go.Shelf
attribute [local go_sem] Oper.semAt_some
def Vb{α:Type}(ka:α->Option Addr)(kn kc:α->Nat)(vf:α->Addr)(n₀:Nat)(W:World)(sv:Value)(zs:List α):Prop:=
 (sv=.slice none 0 0∧zs=[])∨∃ b off cap,sv=.slice (some ⟨b,off,none⟩) zs.length cap∧b<n₀∧(zs.length<=cap∧cap<=maxLen)∧
  ∀ (i:Nat) (x:α),zs[i]? =some x->W.cell? ⟨b,off+i*2,none⟩=some (Value.slice (ka x) (kn x) (kc x))∧W.cell? ⟨b,off+i*2+1,none⟩=some (Value.pointer (some (vf x)))
theorem Vb.below{α:Type}{ka:α->Option Addr}{kn kc:α->Nat}{vf:α->Addr}{n₀:Nat}{W W':World}{sv:Value}{zs:List α}(h:Vb ka kn kc vf n₀ W sv zs)(hB:Below n₀ W W'):Vb ka kn kc vf n₀ W' sv zs:=by
 rcases h with h|⟨b,off,cap,e,hb,QN,hc⟩
 ·exact .inl h
 exact .inr ⟨b,off,cap,e,hb,QN,fun i x hx=>⟨(hB.cell (p:=⟨b,off+i*2,none⟩) hb).trans (hc i x hx).1,(hB.cell (p:=⟨b,off+i*2+1,none⟩) hb).trans (hc i x hx).2⟩⟩
theorem Nh{α:Type}(ka:α->Option Addr)(kn kc:α->Nat)(vf:α->Addr){w:World}{B e:Nat}{v:Value}(zs:List α)(h:w.ownsRow B e 2 v zs.length (eD (zs.map fun x=>((Value.slice (ka x) (kn x) (kc x)),(Value.pointer (some (vf x))))))):Vb ka kn kc vf w.heap.size w v zs:=by
 have h':=h
 rcases h.2 with⟨rfl,h0⟩|⟨q,cap,cur,rfl,hb,hh,iK,mD,oZ,ht⟩
 ·exact .inl ⟨rfl,List.length_eq_zero_iff.1 h0⟩
 refine .inr ⟨q,0,cap,rfl,(Array.getElem?_eq_some_iff.1 hh).1,⟨iK,mD⟩,fun i x hx=>?_⟩;have hi:=(dK hx).1;have hm:(zs.map fun x=>((Value.slice (ka x) (kn x) (kc x)),(Value.pointer (some (vf x)))))[i]? =some ((Value.slice (ka x) (kn x) (kc x)),(Value.pointer (some (vf x)))):=by simp [hx]
 have a0:=eY _ i 0 _ hm (by decide);have a1:=eY _ i 1 _ hm (by decide);have c0:=h'.cellAt (i*2) (by omega);have c1:=h'.cellAt (i*2+1) (by omega);exact⟨by rw [Nat.zero_add,c0];exact a0,by rw [Nat.zero_add,c1];exact a1⟩
theorem aCr{α:Type}(F:Fence)(n:Nat)(h7:F.fn 148)(xK:F.round=none)(l tb g:Nat)(J:List α->World->Prop)(W:World)
 (kb:W.cell? ⟨tb,0,none⟩=some (.pointer (some ⟨g,0,none⟩))) (kg:W.cell? ⟨g,1,none⟩=some (.slice none 0 0)) (h0:J [] W):
 CallsIn F n Tryz.prog 148 #[.func (.yield l) #[] #[],.pointer (some ⟨tb,0,none⟩)] W fun e W'=>(∃ v,e=.returned v)∧J [] W':=by
 refine callsIn_of_wp Tryz.func148 rfl h7 ?_ xK;simp only [Tryz.ntmps148,List.size_toArray,List.length_cons,List.length_nil,Nat.reduceAdd,Nat.reduceSub,Array.replicate_succ,Array.replicate_zero,List.push_toArray,List.append_toArray,List.nil_append,List.cons_append]
 gi_wp2
 gi_loopw [10] (fun i wr=>i=.int .i64 0∧J [] wr) (fun _ _=>0)
 case atStart=>exact⟨rfl,h0⟩
 obtain⟨rfl,Li⟩:=hrel
 gi_wp2
 go_end0
 exact⟨⟨_,rfl⟩,Li⟩
theorem aAu(F:Fence)(n:Nat)(h6:F.fn 115)(xK:F.round=none)(p:Option Addr)(w:World):
 CallsIn F n Tryz.prog 115 #[.pointer p] w fun e w'=>e=.returned (.func (.func 148) #[] #[.pointer (some ⟨w.heap.size,0,none⟩)])∧w'=w.alloc (.cells #[.pointer p] 117):=by
 refine callsIn_of_wp Tryz.func115 rfl h6 ?_ xK;simp only [Tryz.ntmps115,List.size_toArray,List.length_cons,List.length_nil,Nat.reduceAdd,Nat.reduceSub,Array.replicate_succ,Array.replicate_zero,List.push_toArray,List.append_toArray,List.nil_append,List.cons_append]
 gi_wp2
 go_ret;exact⟨rfl,rfl⟩
theorem Db{α:Type}(ka:α->Option Addr)(kn kc:α->Nat)(vf:α->Addr)(F:Fence)(n:Nat)(h7:F.fn 148)(xK:F.round=none)(hn:1<=n)(tb g n₀:Nat)(sv:Value)(zs:List α)(hl:zs.length<=1000000)(w:World)(htb:tb<w.heap.size)(hg:g<n₀)(hn₀:n₀<=w.heap.size)
 (kb:w.cell? ⟨tb,0,none⟩=some (.pointer (some ⟨g,0,none⟩))) (kg:w.cell? ⟨g,1,none⟩=some sv) (hR:Vb ka kn kc vf n₀ w sv zs):
 SeqStopsK F n Tryz.prog 148 #[.pointer (some ⟨tb,0,none⟩)] (fun x:α=>#[(Value.slice (ka x) (kn x) (kc x)),(Value.pointer (some (vf x)))]) (Below n₀) (fun ys=>ys=zs) (fun pre=>pre<+:zs) zs.length w:=fun l J Jx W hW hJ _ hY h0=>by
 have kb':=(hW.cell (p:=⟨tb,0,none⟩) htb).trans kb;have kg':=(hW.cell (p:=⟨g,1,none⟩) (sP hg hn₀)).trans kg
 rcases hR.below (hW.mono hn₀) with⟨rfl,rfl⟩|⟨b,off,cap,rfl,hb,QN,oZ⟩
 ·exact(aCr F n h7 xK l tb g J W kb' kg' h0).mono fun e W' ⟨he,hj⟩=>⟨he,.inl ⟨_,rfl,hj⟩⟩
 exact aE6 ka kn kc vf F n h7 xK hn l tb g n₀ b off cap (.pointer none) zs hl QN hb J Jx (fun s W1 W2 hs nH=>hJ s W1 W2 none hs nH (fun r e=>by cases e)) hY W kb' kg' oZ (iL hn₀ hW.size) h0
end Go.Proofs.YthdpacepbbcocaaGreat
namespace Go.Proofs.YthdpacepbbcocaaGreat
open Go.RowKit Go.Shelf
attribute [local go_sem] Oper.semAt_some
def aCs{α:Type}(kf:α->Int)(vf:α->Addr)(n₀:Nat)(W:World)(sv:Value)(zs:List α):Prop:=
 (sv=.slice none 0 0∧zs=[])∨∃ b off cap,sv=.slice (some ⟨b,off,none⟩) zs.length cap∧b<n₀∧(zs.length<=cap∧cap<=maxLen)∧
  ∀ (i:Nat) (x:α),zs[i]? =some x->W.cell? ⟨b,off+i*2,none⟩=some (Value.int .i64 (kf x))∧W.cell? ⟨b,off+i*2+1,none⟩=some (Value.pointer (some (vf x)))
theorem aCs.below{α:Type}{kf:α->Int}{vf:α->Addr}{n₀:Nat}{W W':World}{sv:Value}{zs:List α}(h:aCs kf vf n₀ W sv zs)(hB:Below n₀ W W'):aCs kf vf n₀ W' sv zs:=by
 rcases h with h|⟨b,off,cap,e,hb,QN,hc⟩
 ·exact .inl h
 exact .inr ⟨b,off,cap,e,hb,QN,fun i x hx=>⟨(hB.cell (p:=⟨b,off+i*2,none⟩) hb).trans (hc i x hx).1,(hB.cell (p:=⟨b,off+i*2+1,none⟩) hb).trans (hc i x hx).2⟩⟩
theorem aGg{α:Type}(kf:α->Int)(vf:α->Addr){w:World}{B e:Nat}{v:Value}(zs:List α)(h:w.ownsRow B e 2 v zs.length (eD (zs.map fun x=>((Value.int .i64 (kf x)),(Value.pointer (some (vf x))))))):aCs kf vf w.heap.size w v zs:=by
 have h':=h
 rcases h.2 with⟨rfl,h0⟩|⟨q,cap,cur,rfl,hb,hh,iK,mD,oZ,ht⟩
 ·exact .inl ⟨rfl,List.length_eq_zero_iff.1 h0⟩
 refine .inr ⟨q,0,cap,rfl,(Array.getElem?_eq_some_iff.1 hh).1,⟨iK,mD⟩,fun i x hx=>?_⟩;have hi:=(dK hx).1;have hm:(zs.map fun x=>((Value.int .i64 (kf x)),(Value.pointer (some (vf x)))))[i]? =some ((Value.int .i64 (kf x)),(Value.pointer (some (vf x)))):=by simp [hx]
 have a0:=eY _ i 0 _ hm (by decide);have a1:=eY _ i 1 _ hm (by decide);have c0:=h'.cellAt (i*2) (by omega);have c1:=h'.cellAt (i*2+1) (by omega);exact⟨by rw [Nat.zero_add,c0];exact a0,by rw [Nat.zero_add,c1];exact a1⟩
theorem aCt{α:Type}(F:Fence)(n:Nat)(h7:F.fn 149)(xK:F.round=none)(l tb g:Nat)(J:List α->World->Prop)(W:World)
 (kb:W.cell? ⟨tb,0,none⟩=some (.pointer (some ⟨g,0,none⟩))) (kg:W.cell? ⟨g,1,none⟩=some (.slice none 0 0)) (h0:J [] W):
 CallsIn F n Tryz.prog 149 #[.func (.yield l) #[] #[],.pointer (some ⟨tb,0,none⟩)] W fun e W'=>(∃ v,e=.returned v)∧J [] W':=by
 refine callsIn_of_wp Tryz.func149 rfl h7 ?_ xK;simp only [Tryz.ntmps149,List.size_toArray,List.length_cons,List.length_nil,Nat.reduceAdd,Nat.reduceSub,Array.replicate_succ,Array.replicate_zero,List.push_toArray,List.append_toArray,List.nil_append,List.cons_append]
 gi_wp2
 gi_loopw [10] (fun i wr=>i=.int .i64 0∧J [] wr) (fun _ _=>0)
 case atStart=>exact⟨rfl,h0⟩
 obtain⟨rfl,Li⟩:=hrel
 gi_wp2
 go_end0
 exact⟨⟨_,rfl⟩,Li⟩
theorem aKb(F:Fence)(n:Nat)(h6:F.fn 116)(xK:F.round=none)(p:Option Addr)(w:World):
 CallsIn F n Tryz.prog 116 #[.pointer p] w fun e w'=>e=.returned (.func (.func 149) #[] #[.pointer (some ⟨w.heap.size,0,none⟩)])∧w'=w.alloc (.cells #[.pointer p] 154):=by
 refine callsIn_of_wp Tryz.func116 rfl h6 ?_ xK;simp only [Tryz.ntmps116,List.size_toArray,List.length_cons,List.length_nil,Nat.reduceAdd,Nat.reduceSub,Array.replicate_succ,Array.replicate_zero,List.push_toArray,List.append_toArray,List.nil_append,List.cons_append]
 gi_wp2
 go_ret;exact⟨rfl,rfl⟩
theorem aCu{α:Type}(kf:α->Int)(vf:α->Addr)(F:Fence)(n:Nat)(h7:F.fn 149)(xK:F.round=none)(hn:1<=n)(tb g n₀:Nat)(sv:Value)(zs:List α)(hl:zs.length<=1000000)(w:World)(htb:tb<w.heap.size)(hg:g<n₀)(hn₀:n₀<=w.heap.size)
 (kb:w.cell? ⟨tb,0,none⟩=some (.pointer (some ⟨g,0,none⟩))) (kg:w.cell? ⟨g,1,none⟩=some sv) (hR:aCs kf vf n₀ w sv zs):
 SeqStopsK F n Tryz.prog 149 #[.pointer (some ⟨tb,0,none⟩)] (fun x:α=>#[(Value.int .i64 (kf x)),(Value.pointer (some (vf x)))]) (Below n₀) (fun ys=>ys=zs) (fun pre=>pre<+:zs) zs.length w:=fun l J Jx W hW hJ _ hY h0=>by
 have kb':=(hW.cell (p:=⟨tb,0,none⟩) htb).trans kb;have kg':=(hW.cell (p:=⟨g,1,none⟩) (sP hg hn₀)).trans kg
 rcases hR.below (hW.mono hn₀) with⟨rfl,rfl⟩|⟨b,off,cap,rfl,hb,QN,oZ⟩
 ·exact(aCt F n h7 xK l tb g J W kb' kg' h0).mono fun e W' ⟨he,hj⟩=>⟨he,.inl ⟨_,rfl,hj⟩⟩
 exact aE7 kf vf F n h7 xK hn l tb g n₀ b off cap (.pointer none) zs hl QN hb J Jx (fun s W1 W2 hs nH=>hJ s W1 W2 none hs nH (fun r e=>by cases e)) hY W kb' kg' oZ (iL hn₀ hW.size) h0
end Go.Proofs.YthdpacepbbcocaaGreat
namespace Go.Proofs.YthdpacepbbcocaaGreat
open Go.RowKit
def ZL(ps:List Zp):Prop:=rG ps<=1048576∧ps.length<=1048576∧∀ p∈ps,p.1.own.size<=1048576∧p.1.da.length<=1048576∧∀ x∈p.1.da,x.size<=1048576
theorem aGh(l:List UInt8):(⟨l.toArray⟩:ByteArray).size=l.length:=by simp [ByteArray.size]
theorem Ni(ls:List ByteArray):(⟨(Nm.joinL ls).toArray⟩:ByteArray).size=Nm.dP ls+1:=by rw [aGh,Nm.rT]
theorem WM(w:World)(ls:List ByteArray)(hl:ls.length<=maxLen):Nm.dX (w.alloc (.cells (ls.map Value.string).toArray 9)) (.slice (some ⟨w.heap.size,0,none⟩) ls.length ls.length) ls:=by
 refine⟨_,_,rfl,aN _,hl,fun h=>absurd h (by simp),fun _=>⟨_,_,rfl,fun i x hx=>?_⟩⟩;have k:=aH w (ls.map Value.string).toArray 9;rw [Nat.zero_add,aA k i];simp [hx]
def tL(ls:List ByteArray)(ab:ByteArray):ByteArray:=(⟨(Nm.joinL ls).toArray⟩:ByteArray).extract 0 (Nm.dP ls)++ab
theorem sG(ls:List ByteArray)(ab:ByteArray):(tL ls ab).size=Nm.dP ls+ab.size:=by
 rw [tL,jV,ByteArray.size_extract,Ni];omega
theorem yL(v:Value)(ls:List ByteArray)(ab:ByteArray)(w:World)(h:Nm.dX w v ls)(hl:Nm.dP ls<=100000)(ha:ab.size<=1000000):
 Calls Tryz.prog 55 #[v,.string ab] w fun e w'=>e=.returned (.string (tL ls ab))∧Below w.heap.size w w':=by
 have hj:=fun W (hW:Below w.heap.size w W)=>cB v ls W (h.below hW) (by omega)
 have hs:=Ni ls
 have HE:Hid (∀ J:ByteArray,(⟨(Nm.joinL ls).toArray⟩:ByteArray)=J->tL ls ab=J.extract 0 (Nm.dP ls)++ab):=by
  rintro J rfl;rfl
 obtain⟨J,hJ⟩:∃ J:ByteArray,(⟨(Nm.joinL ls).toArray⟩:ByteArray)=J:=⟨_,rfl⟩;have HE2:=Nm.aF (HE.out J hJ);rw [HE2.out];simp only [hJ] at hj hs;have h1:(1:Int)<=(J.size:Int):=by omega
 have h2:J.size<=100001:=by omega
 have h3:(J.size:Int)-1<=(J.size:Int):=by omega
 obtain⟨X,hX⟩:∃ X,X=Nm.dP ls:=⟨_,rfl⟩;rw [<- hX];have HS:Hid (J.size-1=X):=by show _=_;omega
 obtain⟨va,vn,vc,rfl⟩:∃ a n c,v=.slice a n c:=by obtain⟨a,c,e,_⟩:=h;exact⟨a,_,c,e⟩
 clear h hs HE HE2 hJ hX;go_enter Tryz.func55,Tryz.ntmps55;go_wp2_with fail
 refine(hj _ (aK _ _)).mono ?_;rintro e w1 ⟨rfl,b1⟩;go_wp2_with fail
 refine(hj _ b1).mono ?_;rintro e w2 ⟨rfl,b2⟩;have bw:=Nm.aC b1 b2;clear b1 b2 hj;go_wp2;go_ret;refine⟨?_,bw⟩;rw [<- HS.out];rfl
theorem KI(v:Value)(ls:List ByteArray)(ab:ByteArray)(w:World)(h:Nm.dX w v ls)(hl:Nm.dP ls<=100000)(ha:ab.size<=1000000):
 Calls Tryz.prog 55 #[v,.string ab] w fun e w'=>∃ s:ByteArray,e=.returned (.string s)∧s.size=Nm.dP ls+ab.size∧Below w.heap.size w w':=
 (yL v ls ab w h hl ha).mono fun e w' ⟨h1,h2⟩=>⟨_,h1,sG ls ab,h2⟩
theorem Dc(w:World)(x:ByteArray):Nm.dX (w.alloc (.cells #[.string x] 9)) (.slice (some ⟨w.heap.size,0,none⟩) 1 1) [x]:=WM w [x] (show 1<=maxLen by decide)
theorem aLz(w:World)(x y:ByteArray):Nm.dX (w.alloc (.cells #[.string x,.string y] 9)) (.slice (some ⟨w.heap.size,0,none⟩) 2 2) [x,y]:=WM w [x,y] (show 2<=maxLen by decide)
theorem aO9(w:World)(x y z:ByteArray):Nm.dX (w.alloc (.cells #[.string x,.string y,.string z] 9)) (.slice (some ⟨w.heap.size,0,none⟩) 3 3) [x,y,z]:=WM w [x,y,z] (show 3<=maxLen by decide)
theorem Gm{w:World}{g n cap:Nat}{a:Option Addr}(h:Src w g a n cap)(o:Obj):Src (w.alloc o) g a n cap:=bH h ((aK _ _).alloc (aN _) _)
theorem uL{w w':World}{B e n:Nat}{v:Value}{xs:List Value}(h:w.ownsRow B e 1 v n xs)(hb:Below w.heap.size w w'):w'.ownsRow B e 1 v n xs:=by
 refine⟨h.1,?_⟩
 rcases h.2 with h0|⟨g,cap,cur,h1,h2,h3,h4⟩
 ·exact .inl h0
 exact .inr ⟨g,cap,cur,h1,h2,by rw [hb.block g (Array.getElem?_eq_some_iff.1 h3).1];exact h3,h4⟩
theorem UD(d:ByteArray)(a b:Nat):(d.extract a b).data.toList=(d.data.toList.drop a).take (b-a):=by
 simp [ByteArray.data_extract,Array.toList_extract,List.extract_eq_take_drop]
theorem aCv(x r:ByteArray):∀ (f i:Nat),(Dt.fJ f x i).size≠0->Dt.fJ f (x++r) i=Dt.fJ f x i:=by
 intro f
 induction f with
 |zero=>intro i h;simp [Dt.fJ] at h
 |succ f ih=>
  intro i h;rw [Dt.fJ] at h ⊢;rw [Dt.fJ]
  by_cases h1:i<x.size∧i<255
  ·rw [dif_pos h1] at h ⊢;have h2:i<(x++r).size∧i<255:=by rw [jV];omega
   have hg:(x++r)[i]=x[i]:=by
    have e1:(x++r).data.toList[i]? =some (x++r)[i]:=Nm.iZ h2.1;have e2:x.data.toList[i]? =some x[i]:=Nm.iZ h1.1;rw [ByteArray.data_append,Array.toList_append,List.getElem?_append_left (by simpa using h1.1),e2] at e1;exact(gQ e1).symm
   rw [dif_pos h2,hg]
   by_cases h3:x[i].toNat=0
   ·rw [if_pos h3,if_pos h3];apply Nm.kI;rw [UD,UD,ByteArray.data_append,Array.toList_append];simp only [List.drop_zero];rw [List.take_append_of_le_length (by simp;omega)]
   rw [if_neg h3] at h ⊢;rw [if_neg h3]
   by_cases h4:63<x[i].toNat
   ·rw [if_pos h4] at h;simp at h
   rw [if_neg h4] at h ⊢;rw [if_neg h4];exact ih _ h
  rw [dif_neg h1] at h;simp at h
theorem Vd{x r:ByteArray}(h:(Nm.split x).isSome=true):Dt.dG (x++r)=x:=by
 obtain⟨h1,h2⟩:=(Dt.LM x).1 h
 have e:Dt.dG x=x:=by
  have:=Dt.Lp x h1;rw [<- this,h2,Dt.GG]
 rw [Dt.dG,aCv x r 256 0 h1];exact e
def bA(l:List UInt8):ByteArray:=⟨l.toArray⟩
theorem Tryz.aAv:(Tryz.prog.info? 29).map (fun i=>(i.zero,i.size,i.bytes))=some (some (.agg #[.string ByteArray.empty,.int .i64 0,.int .i64 0,.int .i64 0,.string ByteArray.empty]),5,56):=by kernel_rfl
theorem yM(s:Sz)(dv:Value)(w:World)(h:Nm.dX w dv s.da)(hl:s.da.length<=1048576):
 Calls Tryz.prog 37 #[.agg #[.string s.own,.int .i64 s.ty,.int .i64 s.tt,dv]] w fun e w'=>∃ u,e=.returned u∧w'.ownsRow w.heap.size 29 5 u (fA s).length (bK (fA s))∧Below w.heap.size w w':=by
 obtain⟨i0,hi,iJ,fP,fZ⟩:=info_parts Tryz.aAv;have Gn:=qP s;have xO:=fun(k:Nat) (d:ByteArray) (h:s.da[k]? =some d)=>WJ (s:=s) h
 generalize fA s=rs at*;obtain⟨o,ty,tt,da⟩:=s;simp only at*
 have jF:=(aK w.heap.size w).alloc (aN _) (.cells #[.string o,.int .i64 ty,.int .i64 tt,dv] 60);have eF:=h.below jF;have MP:=aH w #[.string o,.int .i64 ty,.int .i64 tt,dv] 60;obtain⟨a,cap,rfl,gY,kK,TV,hc⟩:=eF;clear h;unfold maxLen at kK;go_enter Tryz.func37,Tryz.ntmps37;go_wp2;have aCw:(w.alloc (.cells #[.string o,.int .i64 ty,.int .i64 tt,.slice a da.length cap] 60)).heap.size=w.heap.size+1:=by simp
 generalize w.alloc (.cells #[.string o,.int .i64 ty,.int .i64 tt,.slice a da.length cap] 60)=w0 at*;have o0:=World.ownsRow_lit (base:=w0.heap.size) (e:=29) (size:=5) w0 #[] 0 (aN _) (by decide) rfl
 have pJ:∀ W,Below w0.heap.size w0 W->∀ (k:Nat) (x:ByteArray),da[k]? =some x->∃ b off,a=some ⟨b,off,none⟩∧W.cell? ⟨b,off+k,none⟩=some (.string x):=by
  intro W hW k x hx;obtain⟨b,off,rfl,aL⟩:=hc (by intro h;rw [h] at hx;simp at hx);have h0:=aL k x hx;exact⟨b,off,rfl,(hW.cell (eB w0 _ h0)).trans h0⟩
 have FB:∀ W,Below w0.heap.size w0 W->W.cell? ⟨w.heap.size,0,none⟩=some (.string o)∧W.cell? ⟨w.heap.size,1,none⟩=some (.int .i64 ty)∧W.cell? ⟨w.heap.size,2,none⟩=some (.int .i64 tt)∧W.cell? ⟨w.heap.size,3,none⟩=some (.slice a da.length cap):=by
  intro W hW;have hb:=aB MP hW;exact⟨(aA hb 0).trans rfl,(aA hb 1).trans rfl,(aA hb 2).trans rfl,(aA hb 3).trans rfl⟩
 clear hc MP
 go_loopw [3,4] (fun vo vi wr=>∃ k:Nat,k<=da.length∧vi=.int .i64 k∧wr.ownsRow w0.heap.size 29 5 vo k (bK (rs.take k))∧Below w0.heap.size w0 wr) (fun _ vi _=>da.length-(intOf vi).toNat)
 case atStart=>exact⟨0,dO _,rfl,by rw [<- aCw];exact o0,(aK _ _).alloc (aN _) _⟩
 obtain⟨k,hk,rfl,oO,aJ⟩:=hrel;clear o0;obtain⟨q0,q1,q2,q3⟩:=FB wr aJ
 by_cases bV:k<da.length
 ·obtain⟨x,hx⟩:∃ x,da[k]? =some x:=⟨_,bY bV⟩;obtain⟨b,off,rfl,_⟩:=pJ wr aJ k x hx
  have yB:∀ W,Below w0.heap.size w0 W->W.cell? ⟨w.heap.size,0,none⟩=some (.string o)∧W.cell? ⟨w.heap.size,1,none⟩=some (.int .i64 ty)∧W.cell? ⟨w.heap.size,2,none⟩=some (.int .i64 tt)∧W.cell? ⟨w.heap.size,3,none⟩=some (.slice (some ⟨b,off,none⟩) da.length cap)∧W.cell? ⟨b,off+k,none⟩=some (.string x):=by
   intro W hW;obtain⟨y0,y1,y2,y3⟩:=FB W hW;obtain⟨b',off',he,Mg⟩:=pJ W hW k x hx;cases he
   exact⟨y0,y1,y2,y3,Mg⟩
  have HT:Hid (bK (rs.take k)++[.string o,.int .i64 ty,.int .i64 1,.int .i64 tt,.string x]=bK (rs.take (k+1))):=by
   show _=_
   rw [xO k x hx,jX];rfl
  have i1:(0:Int)<=(k:Int):=by omega
  have i2:(k:Int)<(da.length:Int):=by omega
  clear pJ FB xO hx;go_wp2_with fail
  refine wp_region_held_drew (S:=fun W=>Below w0.heap.size w0 W) (by kernel_rfl) aJ.drew fun aO=>?_;clear q0 q1 q2 q3;refine wpAnyH_take (i:=0) (v:=?_) rfl (by kernel_rfl) (by kernel_rfl) (by kernel_rfl) (fun _ _ _ h=>h) (Or.inl ⟨by rfl,?_⟩) (by assumption) ?_;rotate_left 1
  ·(intro W pE;obtain⟨z0,z1,z2,z3,z4⟩:=yB W pE;go_simp;try (with_reducible rfl))
  refine wpAnyH_take (i:=1) (v:=?_) rfl (by kernel_rfl) (by kernel_rfl) (by kernel_rfl) (fun _ _ _ h=>h) (Or.inl ⟨by rfl,?_⟩) (by assumption) ?_;rotate_left 1
  ·(intro W pE;obtain⟨z0,z1,z2,z3,z4⟩:=yB W pE;go_simp;try (with_reducible rfl))
  refine wpAnyH_take (i:=2) (v:=?_) rfl (by kernel_rfl) (by kernel_rfl) (by kernel_rfl) (fun _ _ _ h=>h) (Or.inl ⟨by rfl,?_⟩) (by assumption) ?_;rotate_left 1
  ·(intro W pE;obtain⟨z0,z1,z2,z3,z4⟩:=yB W pE;go_simp;try (with_reducible rfl))
  refine wpAnyH_take (i:=3) (v:=?_) rfl (by kernel_rfl) (by kernel_rfl) (by kernel_rfl) (fun _ _ _ h=>h) (Or.inl ⟨by rfl,?_⟩) (by assumption) ?_;rotate_left 1
  ·(intro W pE;obtain⟨z0,z1,z2,z3,z4⟩:=yB W pE;go_simp;try (with_reducible rfl))
  refine wpAnyH_take (i:=4) (v:=?_) rfl (by kernel_rfl) (by kernel_rfl) (by kernel_rfl) (fun _ _ _ h=>h) (Or.inl ⟨by rfl,?_⟩) (by assumption) ?_;rotate_left 1
  ·(intro W pE;obtain⟨z0,z1,z2,z3,z4⟩:=yB W pE;go_simp;try (with_reducible rfl))
  refine wpAnyH_take (i:=5) (v:=?_) rfl (by kernel_rfl) (by kernel_rfl) (by kernel_rfl) (fun _ _ _ h=>h) (Or.inl ⟨by rfl,?_⟩) (by assumption) ?_;rotate_left 1
  ·(intro W pE;obtain⟨z0,z1,z2,z3,z4⟩:=yB W pE;go_simp;try (with_reducible rfl))
  refine wpAnyH_take (i:=6) (v:=?_) rfl (by kernel_rfl) (by kernel_rfl) (by kernel_rfl) (fun _ _ _ h=>h) (Or.inl ⟨by rfl,?_⟩) (by assumption) ?_;rotate_left 1
  ·(intro W pE;obtain⟨z0,z1,z2,z3,z4⟩:=yB W pE;go_simp;try (with_reducible rfl))
  refine wpAnyH_take (i:=7) (v:=?_) rfl (by kernel_rfl) (by kernel_rfl) (by kernel_rfl) (fun _ _ _ h=>h) (Or.inl ⟨by rfl,?_⟩) (by assumption) ?_;rotate_left 1
  ·(intro W pE;obtain⟨z0,z1,z2,z3,z4⟩:=yB W pE;go_simp;try (with_reducible rfl))
  refine wpAnyH_take (i:=8) (v:=?_) rfl (by kernel_rfl) (by kernel_rfl) (by kernel_rfl) (fun _ _ _ h=>h) (Or.inl ⟨by rfl,?_⟩) (by assumption) ?_;rotate_left 1
  ·(intro W pE;obtain⟨z0,z1,z2,z3,z4⟩:=yB W pE;go_simp;try (with_reducible rfl))
  refine wpAnyH_take (i:=9) (v:=?_) rfl (by kernel_rfl) (by kernel_rfl) (by kernel_rfl) (fun _ _ _ h=>h) (Or.inl ⟨by rfl,?_⟩) (by assumption) ?_;rotate_left 1
  ·(intro W pE;obtain⟨z0,z1,z2,z3,z4⟩:=yB W pE;go_simp;try (with_reducible rfl))
  refine wpAnyH_take (i:=10) (v:=?_) rfl (by kernel_rfl) (by kernel_rfl) (by kernel_rfl) (fun _ _ _ h=>h) (Or.inl ⟨by rfl,?_⟩) (by assumption) ?_;rotate_left 1
  ·(intro W pE;obtain⟨z0,z1,z2,z3,z4⟩:=yB W pE;go_simp;try (with_reducible rfl))
  refine wpAnyH_take (i:=11) (v:=?_) rfl (by kernel_rfl) (by kernel_rfl) (by kernel_rfl) (fun _ _ _ h=>h) (Or.inl ⟨by rfl,?_⟩) (by assumption) ?_;rotate_left 1
  ·(intro W pE;obtain⟨z0,z1,z2,z3,z4⟩:=yB W pE;go_simp;try (with_reducible rfl))
  refine wpAnyH_take (i:=12) (v:=?_) rfl (by kernel_rfl) (by kernel_rfl) (by kernel_rfl) (fun _ _ _ h=>h) (Or.inl ⟨by rfl,?_⟩) (by assumption) ?_;rotate_left 1
  ·(intro W pE;obtain⟨z0,z1,z2,z3,z4⟩:=yB W pE;go_simp;try (with_reducible rfl))
  refine wpAnyH_ready (rs:=[13]) (by kernel_rfl) (by simp) ?_;refine AllReadyH.cons rfl (fun K hK=>?_) AllReadyH.nil;go_simp;refine hK.out _ _ (aO.alloc aO.size _) fun _=>?_;clear hK K;refine wpAnyH_ready (rs:=[14]) (by kernel_rfl) (by simp) ?_;refine AllReadyH.cons rfl (fun K hK=>?_) AllReadyH.nil;refine iX rfl (.tmp 13) (.tmp 26) 30 rfl w0.heap.size 29 i0 _ 5 56 Tryz.underlying30 hi iJ fP fZ rfl (by decide) _ _ _ (by rfl) (own_below oO ((aK _ _).drew.alloc (aN _) _)) ⟨wr.drew.heap.size,0,none⟩ 1 1 [.string o,.int .i64 ty,.int .i64 1,.int .i64 tt,.string x] (by rfl) rfl (dU _ _ _) (by intro u hu;simp at hu;rcases hu with rfl|rfl|rfl|rfl|rfl<;>rfl) (by unfold maxLen;omega) (by omega) (by have:=aO.size;simp at this ⊢;omega) ?_;intro va wa dD bZ _;rw [HT.out] at dD;have b4:Below w0.heap.size w0 wa:=(aO.alloc aO.size _).grown bZ (by have:=aO.size;simp at this ⊢;omega) (fun k hk=>(oO.lt k hk).1);refine hK.out _ _ b4 fun _=>?_;clear hK K bZ oO aO;refine wpAnyH_take (i:=15) (v:=?_) rfl (by kernel_rfl) (by kernel_rfl) (by kernel_rfl) (fun _ _ _ h=>h) (Or.inl ⟨by rfl,?_⟩) (by assumption) ?_;rotate_left 1
  ·(intro W pE;obtain⟨z0,z1,z2,z3,z4⟩:=yB W pE;go_simp;try (with_reducible rfl))
  refine wpAnyH_done (by kernel_rfl) ?_ _;obtain⟨z0,z1,z2,z3,z4⟩:=yB _ b4;go_wp2;go_roundw
  case rel=>exact⟨k+1,by omega,by go_num,dD,b4⟩
  simp [intOf];omega
 have nS:k=da.length:=by omega
 subst nS;have i2:(da.length:Int)<=(da.length:Int):=by omega
 clear pJ FB xO;rw [List.take_of_length_le (by omega)] at oO;go_wp2;go_ret;refine⟨_,rfl,?_,Nm.aC jF aJ⟩;rw [Gn];exact fQ oO jF.size
theorem Nj(a b:Value)(xs ys:List Rr)(B B2:Nat)(w:World)(h:w.ownsRow B 29 5 a xs.length (bK xs))(h':w.ownsRow B2 29 5 b ys.length (bK ys))(hB:B<=w.heap.size)(bV:∀ g,a.ownBlock=some g->g<B2)(hn:xs.length+ys.length<=2000000):
 Calls Tryz.prog 70 #[a,b] w fun e w'=>∃ u,e=.returned u∧w'.ownsRow B 29 5 u (xs++ys).length (bK (xs++ys))∧Below B w w':=by
 obtain⟨i0,hi,iJ,fP,fZ⟩:=info_parts Tryz.aAv;obtain⟨ba,bc,rfl⟩:=aT h';go_enter Tryz.func70,Tryz.ntmps70;go_wp2
 go_loopw [0,5] (fun vo vi wr=>∃ k:Nat,k<=ys.length∧vi=.int .i64 k∧wr.ownsRow B 29 5 vo (xs.length+k) (bK (xs++ys.take k))∧wr.ownsRow B2 29 5 (.slice ba ys.length bc) ys.length (bK ys)∧(∀ g,vo.ownBlock=some g->(Value.slice ba ys.length bc).ownBlock≠some g)∧B<=wr.heap.size∧Below B w wr) (fun _ vi _=>ys.length-(intOf vi).toNat)
 case atStart=>
  refine⟨0,dO _,rfl,by simpa using h,h',fun g hg e=>?_,hB,aK _ _⟩;have h1:=bV g hg;have h2:=(h'.lt g e).1;omega
 obtain⟨k,hk,rfl,oO,oY,pW,hBw,aJ⟩:=hrel;clear h h' bV hB
 by_cases bV:k<ys.length
 ·obtain⟨x,hx⟩:∃ x,ys[k]? =some x:=⟨_,bY bV⟩;obtain⟨_,ya,yc,hyv,aAw,aKc,hyc⟩:=bS.aS oY;simp only [iG] at hyv;obtain⟨rfl,_,rfl⟩:=hyv;obtain⟨b,off,rfl,aL⟩:=hyc (by omega);obtain⟨c0,c1,c2,c3,c4⟩:=gT aL hx
  have HT:Hid (bK (xs++ys.take k)++[.string x.own,.int .i64 x.ty,.int .i64 x.cl,.int .i64 x.tt,.string x.da]=bK (xs++ys.take (k+1))):=by
   show _=_
   rw [List.take_add_one,hx,<- List.append_assoc,jX (xs++ys.take k)];rfl
  have i1:(0:Int)<=(k:Int):=by omega
  have i2:(k:Int)<(ys.length:Int):=by omega
  clear aL hyc hx;obtain⟨o,ty,cl,tt,da⟩:=x;simp only at c0 c1 c2 c3 c4 HT
  obtain⟨oa,oc,hov⟩:=aT oO;subst hov;go_wp2_with (at_builtin;refine wpList_append_own_at _ rfl (.tmp 12) (.tmp 17) 30 rfl B 29 i0 _ 5 56 Tryz.underlying30 hi iJ fP fZ rfl (by decide) (.slice oa (xs.length+k) oc) (xs.length+k) (bK (xs++ys.take k)) rfl (own_below oO ((aK _ _).alloc (aN _) _)) ⟨wr.heap.size,0,none⟩ 1 1 [.string o,.int .i64 ty,.int .i64 cl,.int .i64 tt,.string da] rfl rfl (dU _ _ _) (by intro u hu;simp at hu;rcases hu with rfl|rfl|rfl|rfl|rfl<;>rfl) (by unfold maxLen;omega) (by omega) (by simp;omega) ?_;intro va wa rF iF oP oQ)
  rw [HT.out] at rF;have oY2:=own_below oY ((aK _ _).alloc (aN _) (.cells #[.string o,.int .i64 ty,.int .i64 cl,.int .i64 tt,.string da] 29))
  have oY3:wa.ownsRow B2 29 5 (.slice (some ⟨b,off,none⟩) ys.length bc) ys.length (bK ys):=by
   refine oY2.kept iF ?_
   cases hoa:(Value.slice oa (xs.length+k) oc).ownBlock with
   |none=>right;simp [Value.ownBlock]
   |some g=>right;exact pW g hoa
  have aPa:=(oY.lt b rfl).2
  have WN:∀ g,va.ownBlock=some g->(Value.slice (some ⟨b,off,none⟩) ys.length bc).ownBlock≠some g:=by
   intro g hg
   rcases oQ with h9|h9
   ·exact pW g (by rw [<- h9];exact hg)
   rw [h9] at hg;simp only [mP,Value.ownBlock,ne_eq] at hg ⊢;simp at hg;omega
  have b4:Below B w wa:=(aJ.alloc hBw _).grown iF (by simp;omega) (fun g hg=>(oO.lt g hg).1);have hB4:B<=wa.heap.size:=by have:=iF.size;simp at this;omega
  clear oQ oP iF oY oY2 oO pW;go_wp2;go_roundw
  case rel=>exact⟨k+1,by omega,by go_num,rF,oY3,WN,hB4,b4⟩
  simp [intOf];omega
 have nS:k=ys.length:=by omega
 subst nS;have i2:(ys.length:Int)<=(ys.length:Int):=by omega
 rw [List.take_length] at oO;clear oY pW;go_wp2;go_ret;refine⟨_,rfl,?_,aJ⟩;rw [nG];exact oO
theorem MQ(o:ByteArray)(v:Value)(ps:List Zp)(w:World)(h:gI w v ps)(hs:rG ps<=1048576)(hl:ps.length<=1048576):
 Calls Tryz.prog 31 #[.agg #[.string o,v]] w fun e w'=>e=.returned (.int .i64 (jD ps:Int))∧Below w.heap.size w w':=by
 have hds:=aJ8 ps;have jF:=(aK w.heap.size w).alloc (aN _) (.cells #[.string o,v] 25);have MP:=aH w #[.string o,v] 25;obtain⟨⟨_,a,cap,rfl,gY,kK,hc⟩,hd⟩:=h;unfold maxLen at kK;have fF:=(aA MP 1).trans rfl;go_enter Tryz.func31,Tryz.ntmps31;go_wp2
 go_loop [3,4] (fun t i=>∃ k:Nat,k<=ps.length∧i=.int .i64 k∧t=.int .i64 (jD (ps.take k):Int)) (fun _ i=>ps.length-(intOf i).toNat)
 case atStart=>exact⟨0,dO _,rfl,by simp [jD]⟩
 obtain⟨k,hk,rfl,rfl⟩:=hrel
 by_cases bV:k<ps.length
 ·obtain⟨x,nI⟩:∃ x,ps[k]? =some x:=⟨_,bY bV⟩;obtain⟨b,off,rfl,aL⟩:=hc (by omega);obtain⟨c0,c1,c2,c3⟩:=lG aL nI;have c3':=(jF.cell (eB w _ c3)).trans c3;have HS:=GY ps k x nI;have nJ:=vN ps (k+1);obtain⟨da',dc,hdv,_⟩:=hd x (bP nI);have i1:(0:Int)<=(k:Int):=by omega
  have i2:(k:Int)<(ps.length:Int):=by omega
  have aGi:((jD (ps.take (k+1)):Nat):Int)=(jD (ps.take k):Int)+(x.1.da.length:Int):=by omega
  have ZI:(jD (ps.take k):Int)+(x.1.da.length:Int)<=1048576:=by omega
  clear nI aL hc hd;obtain⟨⟨o1,ty,tt,da⟩,dv⟩:=x;simp only at c3' hdv aGi ZI
  subst hdv;generalize hz:jD (ps.take (k+1))=z1 at*;generalize jD (ps.take k)=z0 at*;go_wp2
  go_round
  case rel=>exact⟨k+1,by omega,by go_num,by rw [hz,aGi]⟩
  simp [intOf];omega
 have nS:k=ps.length:=by omega
 subst nS;clear hc hd;have i2:(ps.length:Int)<=(ps.length:Int):=by omega
 rw [List.take_length];go_wp2;go_ret;exact⟨rfl,jF⟩
theorem big_set{w W:World}{n cap j:Nat}{xs ys:List Value}{u:Value}(h:w.ownsRow W.heap.size 5 1 (.slice (some ⟨W.heap.size,0,none⟩) n cap) n xs)(hb:Below W.heap.size W w)(e:xs.set j u=ys):
 (w.setCell ⟨W.heap.size,j,none⟩ u).ownsRow W.heap.size 5 1 (.slice (some ⟨W.heap.size,0,none⟩) n cap) n ys∧Below W.heap.size W (w.setCell ⟨W.heap.size,j,none⟩ u):=by
 have:=(h.stored j u).1;rw [e] at this;exact⟨this,hb.setCell (aN _) _⟩
