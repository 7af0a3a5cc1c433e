import Derived.Test.YtlddifpnkeafpaaGreatJOrdL
import Derived.Test.YtlddifpnkeafpaaGreatJCmpD
import Derived.Test.YtlddifpnkeafpaaGreatJData1
import Derived.Deep.CutRange
import Derived.Laws.CopyOwn
import Derived.Deep.Upon
set_option linter.unusedVariables false
set_option maxRecDepth 100000
set_option maxHeartbeats 1600000
namespace Go.Proofs.YtlddifpnkeafpaaGreat
open Go
variable {B b e fuel g i k n:Nat}{P:Program}{T:TypeId}{W w w':World}{a:Act}{fp:List Nat}{listed:Array Bool}{ls:List ByteArray}{o oi:Oper}{ops:Array Oper}{rv v:Value}{x:ByteArray}{xs:List Value}
section
variable {P:Program}{ops:Array Oper}{Q:Exit->Act->World->Prop}{md:Region.Mode}{S:World->Prop}{L:Nat}
theorem kO(i:Nat)(hi:ops[i]? =some oi)
 (h:wpAnyL P md ops Q S L fuel (listed.setIfInBounds i true) (a.put oi.dst v) w) (hy:∀ w,S w->(execOp a.eval oi).run P w=.ok (.value v) w:=by intro W uA;have PL:=(aA uA);go_simp;try (with_reducible rfl))
 (hs:Region.noSelect ops=true:=by kernel_rfl) (hf:Region.free md ops listed i=true:=by kernel_rfl) (hr:(Region.ready md ops listed).contains i=true:=by kernel_rfl) (hL:waitsFor md ops L i=true:=by kernel_rfl)
 (hQ:∀ c a w,Q (.panic c) (a.put oi.dst v) w->Q (.panic c) a w:=by exact fun _ _ _ h=>h) (hw:Region.wanted oi (yielded ops a.tmps)=true:=by kernel_rfl) (hS:S w:=by assumption):wpAnyL P md ops Q S L (fuel+1) listed a w:=
 NE hi hy h hs hf hr hL hQ hw hS
theorem kP(i:Nat)(hi:ops[i]? =some oi)
 (h:wpAnyL P md ops Q S L fuel (listed.setIfInBounds i true) (a.put oi.dst v) w) (hy:∀ w,S w->(execOp a.eval oi).run P w=.ok (.value v) w:=by intro W uA;obtain⟨s1,s2⟩:=uA;have PL:=(aA s1);have LK:=(aA s2);go_simp;try (with_reducible rfl))
 (hs:Region.noSelect ops=true:=by kernel_rfl) (hf:Region.free md ops listed i=true:=by kernel_rfl) (hr:(Region.ready md ops listed).contains i=true:=by kernel_rfl) (hL:waitsFor md ops L i=true:=by kernel_rfl)
 (hQ:∀ c a w,Q (.panic c) (a.put oi.dst v) w->Q (.panic c) a w:=by exact fun _ _ _ h=>h) (hw:Region.wanted oi (yielded ops a.tmps)=true:=by kernel_rfl) (hS:S w:=by assumption):wpAnyL P md ops Q S L (fuel+1) listed a w:=
 NE hi hy h hs hf hr hL hQ hw hS
theorem kQ(i:Nat)(hi:ops[i]? =some oi)
 (h:wpAnyL P md ops Q S L fuel (listed.setIfInBounds i true) (a.put oi.dst v) w) (hy:∀ w,S w->(execOp a.eval oi).run P w=.ok (.value v) w:=by intro W uA;obtain⟨s1,s2,s3⟩:=uA;have PL:=(aA s1);have LK:=(aA s2);go_simp;try (with_reducible rfl))
 (hs:Region.noSelect ops=true:=by kernel_rfl) (hf:Region.free md ops listed i=true:=by kernel_rfl) (hr:(Region.ready md ops listed).contains i=true:=by kernel_rfl) (hL:waitsFor md ops L i=true:=by kernel_rfl)
 (hQ:∀ c a w,Q (.panic c) (a.put oi.dst v) w->Q (.panic c) a w:=by exact fun _ _ _ h=>h) (hw:Region.wanted oi (yielded ops a.tmps)=true:=by kernel_rfl) (hS:S w:=by assumption):wpAnyL P md ops Q S L (fuel+1) listed a w:=
 NE hi hy h hs hf hr hL hQ hw hS
theorem kB(i:Nat)(hi:ops[i]? =some oi)
 (h:wpAnyL P md ops Q S L fuel (listed.setIfInBounds i true) (a.put oi.dst v) w) (hy:∀ w,S w->(execOp a.eval oi).run P w=.ok (.value v) w:=by intro W uA;(repeat obtain⟨_,uA⟩:_∧_:=uA);go_simp;try (with_reducible rfl))
 (hs:Region.noSelect ops=true:=by kernel_rfl) (hf:Region.free md ops listed i=true:=by kernel_rfl) (hr:(Region.ready md ops listed).contains i=true:=by kernel_rfl) (hL:waitsFor md ops L i=true:=by kernel_rfl)
 (hQ:∀ c a w,Q (.panic c) (a.put oi.dst v) w->Q (.panic c) a w:=by exact fun _ _ _ h=>h) (hw:Region.wanted oi (yielded ops a.tmps)=true:=by kernel_rfl) (hS:S w:=by assumption):wpAnyL P md ops Q S L (fuel+1) listed a w:=
 NE hi hy h hs hf hr hL hQ hw hS
theorem kS(i:Nat)(hi:ops[i]? =some oi)
 (h:wpAnyL P md ops Q S L fuel (listed.setIfInBounds i true) (a.put oi.dst undef) w)
 (hs:Region.noSelect ops=true:=by kernel_rfl) (hf:Region.free md ops listed i=true:=by kernel_rfl) (hr:(Region.ready md ops listed).contains i=true:=by kernel_rfl) (hL:waitsFor md ops L i=true:=by kernel_rfl)
 (hQ:∀ c a w,Q (.panic c) (a.put oi.dst undef) w->Q (.panic c) a w:=by exact fun _ _ _ h=>h) (hw:Region.wanted oi (yielded ops a.tmps)=false:=by kernel_rfl) (hS:S w:=by assumption):wpAnyL P md ops Q S L (fuel+1) listed a w:=
 GH hi hs hf hr hL hQ (Or.inr ⟨hw,rfl⟩) hS h
theorem kN(hq:Q .normal a w)(hr:Region.ready md ops listed=[]:=by kernel_rfl):wpAnyL P md ops Q S L fuel listed a w:=UL hr hq
theorem k1(i:Nat)(ho:ops[i]? =some o)
 (h:∀ K':Act->World->Prop,Shut (∀ a w,S w->(S w->wpAnyL P md ops Q S L fuel (listed.setIfInBounds i true) a w)->K' a w)->if Region.wanted o (yielded ops a.tmps)=true then Oper.wp P o a w K' Q else K' (a.put o.dst undef) w)
 (hr:Region.ready md ops listed=[i]:=by kernel_rfl):wpAnyL P md ops Q S L (fuel+1) listed a w:=DU hr ho h
theorem k2(i j:Nat){o':Oper}(ho:ops[i]? =some o)(OA:ops[j]? =some o')
 (h:∀ K':Act->World->Prop,Shut (∀ a w,S w->(S w->wpAnyL P md ops Q S L fuel (listed.setIfInBounds i true) a w)->K' a w)->if Region.wanted o (yielded ops a.tmps)=true then Oper.wp P o a w K' Q else K' (a.put o.dst undef) w)
 (h':∀ K':Act->World->Prop,Shut (∀ a w,S w->(S w->wpAnyL P md ops Q S L fuel (listed.setIfInBounds j true) a w)->K' a w)->if Region.wanted o' (yielded ops a.tmps)=true then Oper.wp P o' a w K' Q else K' (a.put o'.dst undef) w)
 (hr:Region.ready md ops listed=[i,j]:=by kernel_rfl):wpAnyL P md ops Q S L (fuel+1) listed a w:=YO hr ho OA h h'
theorem kR{id:Nat}(S:World->Prop)(L:Nat)(hS:S w.drew)
 (h:S w.drew->wpAnyL P .any ops Q S L ops.size (Array.replicate ops.size false) a w.drew) (hm:P.follows .mixedOrders=true:=by kernel_rfl):(Code.region id ops true).wp P Q a w:=xV S L hm hS h
end
open Go.RowKit
def pO{α:Type}(f:α->Int)(l:List α)(i:Nat):Int:=match l[i]? with
 |some x=>f x
 |none=>0
def posOf{α:Type}(f:α->Int)(l:List α):Nat:=(l.takeWhile fun x=>decide (f x<0)).length
theorem jV{α:Type}{f:α->Int}{l:List α}{x:α}(h:l[i]? =some x):pO f l i=f x:=by rw [pO,h]
theorem rV{α:Type}{f:α->Int}:∀ (l:List α),(∀ a b,a<=b->b<l.length->pO f l b<0->pO f l a<0)->FU l.length (pO f l) (posOf f l):=by
 intro l
 induction l with
 |nil=>intro _;exact⟨aI _,fun i hi=>by simp [posOf] at hi,fun i _ h2=>by simp at h2⟩
 |cons x l ih=>
  intro hm;have hsh:∀ i,pO f (x::l) (i+1)=pO f l i:=fun i=>by simp [pO]
  have hz:pO f (x::l) 0=f x:=rfl
  by_cases hx:f x<0
  ·have hp:posOf f (x::l)=posOf f l+1:=by simp [posOf,hx]
   obtain⟨h1,h2,h3⟩:=ih (fun a b Pe hb hc=>by
    have:=hm (a+1) (b+1) (by omega) (by simp;omega) (by rw [hsh];exact hc);rw [hsh] at this
    exact this)
   rw [hp];refine⟨by simp;omega,fun i hi=>?_,fun i h4 h5=>?_⟩
   ·cases i with
    |zero=>exact hx
    |succ i=>rw [hsh];exact h2 i (by omega)
   cases i with
   |zero=>omega
   |succ i=>rw [hsh];exact h3 i (by omega) (by simp at h5;omega)
  have hp:posOf f (x::l)=0:=by simp [posOf,hx]
  rw [hp];refine⟨dR _,fun i hi=>by omega,fun i _ h5=>?_⟩
  rcases Int.lt_or_le (pO f (x::l) i) 0 with h|h
  ·have:=hm 0 i (dR _) h5 h;rw [hz] at this;exact absurd this hx
  exact h
def mR{α:Type}(k:Nat)(x:α)(l:List α):List α:=l.take k++[x]++l.drop k
def gY{α:Type}(f:α->Int)(l:List α):Bool:=decide (posOf f l<l.length)&&decide (pO f l (posOf f l)=0)
def ZI{α:Type}(f:α->Int)(x:α)(l:List α):List α:=if gY f l then l else mR (posOf f l) x l
theorem uP{α:Type}{f:α->Int}{l:List α}(h:gY f l=true):∃ x,l[posOf f l]? =some x∧f x=0:=by
 simp only [gY,Bool.and_eq_true,decide_eq_true_eq] at h;obtain⟨h1,h2⟩:=h;refine⟨_,gF h1,?_⟩;rw [jV (gF h1)] at h2;exact h2
theorem IB{α:Type}{f:α->Int}{l:List α}(h:gY f l=false):¬(posOf f l<l.length∧pO f l (posOf f l)=0):=by
 rintro⟨h1,h2⟩
 rw [gY,oI h1,oI h2] at h;cases h
theorem lI{α:Type}{f:α->Int}{R:α->α->Prop}{l:List α}(hp:l.Pairwise R)(hR:∀ a b,R a b->f b<0->f a<0):∀ a b,a<=b->b<l.length->pO f l b<0->pO f l a<0:=by
 intro a b Pe hb hc
 rcases Nat.lt_or_eq_of_le Pe with h|h
 ·have:=List.pairwise_iff_getElem.1 hp a b (by omega) hb h;rw [jV (gF hb)] at hc;rw [jV (gF (by omega:a<l.length))];exact hR _ _ this hc
 subst h;exact hc
theorem ZJ{a:Nat}{c d:Array Value}{T':TypeId}(h1:bW w a c T)(h2:bW w b d T')(dM:T≠T'):a≠b:=by
 intro e;subst e;rw [bW,h1] at h2;simp only [mV,Obj.cells.injEq] at h2;exact dM h2.2.1
theorem dD{s:Nat}{cs:Array Value}(h:W.ownsRow B e s v n xs)(hb:bW W b cs T)(dM:e≠T):v.ownBlock≠some b:=by
 intro he
 rcases h.2 with⟨rfl,_⟩|⟨g,cap,cur,rfl,_,hh,_⟩
 ·cases he
 simp only [Value.ownBlock,mV] at he;subst he;rw [bW,hh] at hb;simp only [mV,Obj.cells.injEq] at hb;exact dM hb.2.1
structure nY where
 dS:Nat
 hd:Nat
 rv:Value
 ty:Int
 tt:Int
 fi:Nat
 da:List (ByteArray×ByteArray)
structure dG where
 dS:Nat
 hd:Nat
 rv:Value
 lv:Value
 lab:List ByteArray
 nm:ByteArray
 ss:List nY
def ptr(b:Nat):Value:=.pointer (some ⟨b,0,none⟩)
def zF(l:List (ByteArray×ByteArray)):List (Value×Value):=l.map fun p=>(.string p.1,.string p.2)
def lQ(l:List nY):List (Value×Value):=l.map fun s=>(.int .i64 s.ty,ptr s.dS)
def jS(l:List dG):List (Value×Value):=l.map fun o=>(o.lv,ptr o.dS)
def Gp:Value:=.func (.func 171) #[] #[]
def UW:Value:=.func (.func 167) #[] #[]
def wI:Value:=.func (.func 94) #[] #[]
def xH(s:nY):List Nat:=s.dS::s.hd::s.rv.ownBlock.toList
def qE(o:dG):List Nat:=o.dS::o.hd::(o.rv.ownBlock.toList++o.ss.flatMap xH)
def jF(th:Nat)(rv:Value)(os:List dG):List Nat:=th::(rv.ownBlock.toList++os.flatMap qE)
structure Ec (w:World) (B:Nat) (s:nY):Prop where
 node:bW w s.dS #[.int .i64 s.tt,.int .i64 (s.fi:Int),ptr s.hd] 177
 head:bW w s.hd #[Gp,s.rv] 234
 rows:w.ownsRow B 236 2 s.rv (zF s.da).length (eO (zF s.da))
structure yB (w:World) (B:Nat) (o:dG):Prop where
 node:bW w o.dS #[.string o.nm,o.lv,ptr o.hd] 128
 head:bW w o.hd #[UW,o.rv] 193
 rows:w.ownsRow B 195 2 o.rv (lQ o.ss).length (eO (lQ o.ss))
 sets:∀ s∈o.ss,Ec w B s
structure nQ (w:World) (B th:Nat) (rv:Value) (os:List dG):Prop where
 head:bW w th #[wI,rv] 163
 rows:w.ownsRow B 165 2 rv (jS os).length (eO (jS os))
 jG:∀ o∈os,yB w B o
 nodup:(jF th rv os).Nodup
theorem lJ{cs:Array Value}(h:bW w b cs T)(he:w'.heap[b]? =w.heap[b]?):bW w' b cs T:=he.trans h
theorem BL{s:Nat}(h:w.ownsRow B e s v n xs)(he:∀ b∈v.ownBlock.toList,w'.heap[b]? =w.heap[b]?):w'.ownsRow B e s v n xs:=by
 refine⟨h.1,?_⟩
 rcases h.2 with h0|⟨q,cap,cur,rfl,hb,hh,r⟩
 ·exact .inl h0
 exact .inr ⟨q,cap,cur,rfl,hb,(he q (by simp [Value.ownBlock])).trans hh,r⟩
theorem Ec.keep{s:nY}(h:Ec w B s)(he:∀ b∈xH s,w'.heap[b]? =w.heap[b]?):Ec w' B s:=
 ⟨lJ h.node (he _ (by simp [xH])),lJ h.head (he _ (by simp [xH])),BL h.rows (fun b hb=>he b (by simp only [xH,List.mem_cons];exact .inr (.inr hb)))⟩
theorem yB.keep{o:dG}(h:yB w B o)(he:∀ b∈qE o,w'.heap[b]? =w.heap[b]?):yB w' B o:=
 ⟨lJ h.node (he _ (by simp [qE])),lJ h.head (he _ (by simp [qE])),BL h.rows (fun b hb=>he b (by simp only [qE,List.mem_cons,List.mem_append];exact .inr (.inr (.inl hb)))),
  fun s hs=>(h.sets s hs).keep (fun b hb=>he b (by simp only [qE,List.mem_cons,List.mem_append,List.mem_flatMap];exact .inr (.inr (.inr ⟨s,hs,hb⟩))))⟩
variable {os:List dG}
theorem nQ.keep{th:Nat}(h:nQ w B th rv os)(he:∀ b∈jF th rv os,w'.heap[b]? =w.heap[b]?):nQ w' B th rv os:=
 ⟨lJ h.head (he _ (by simp [jF])),BL h.rows (fun b hb=>he b (by simp only [jF,List.mem_cons,List.mem_append];exact .inr (.inl hb))),
  fun o ho=>(h.jG o ho).keep (fun b hb=>he b (by simp only [jF,List.mem_cons,List.mem_append,List.mem_flatMap];exact .inr (.inr ⟨o,ho,hb⟩))),h.nodup⟩
theorem vW{s:Nat}(h:w.ownsRow B e s v n xs):∀ b∈v.ownBlock.toList,b<w.heap.size:=by
 intro b hb
 cases hv:v.ownBlock with
 |none=>rw [hv] at hb;simp at hb
 |some q=>
  rw [hv] at hb;simp at hb;subst hb;exact(h.lt _ hv).2
theorem Ec.lt{s:nY}(h:Ec w B s):∀ b∈xH s,b<w.heap.size:=by
 intro b hb;simp only [xH,List.mem_cons] at hb
 rcases hb with rfl|rfl|hb
 ·exact cO h.node
 ·exact cO h.head
 exact vW h.rows b hb
theorem yB.lt{o:dG}(h:yB w B o):∀ b∈qE o,b<w.heap.size:=by
 intro b hb;simp only [qE,List.mem_cons,List.mem_append,List.mem_flatMap] at hb
 rcases hb with rfl|rfl|hb|⟨s,hs,hb⟩
 ·exact cO h.node
 ·exact cO h.head
 ·exact vW h.rows b hb
 exact(h.sets s hs).lt b hb
theorem nQ.lt{th:Nat}(h:nQ w B th rv os):∀ b∈jF th rv os,b<w.heap.size:=by
 intro b hb;simp only [jF,List.mem_cons,List.mem_append,List.mem_flatMap] at hb
 rcases hb with rfl|hb|⟨o,ho,hb⟩
 ·exact cO h.head
 ·exact vW h.rows b hb
 exact(h.jG o ho).lt b hb
theorem nQ.below{th:Nat}(h:nQ w B th rv os)(hb:Below w.heap.size w w'):nQ w' B th rv os:=
 h.keep (fun b hm=>hb.block b (h.lt b hm))
structure dN (fp:List Nat) (w w':World):Prop where
 os:w'.os=w.os
 tape:w'.tape=w.tape
 output:w'.output=w.output
 size:w.heap.size<=w'.heap.size
 block:∀ k,k<w.heap.size->k∉fp->w'.heap[k]? =w.heap[k]?
theorem dN.below(h:Below w.heap.size w w'):dN fp w w':=⟨h.os,h.tape,h.output,h.size,fun k hk _=>h.block k hk⟩
theorem dN.trans{fp':List Nat}{w1 w2:World}(h:dN fp w w1)(h2:dN fp' w1 w2)(hs:∀ k∈fp',k∈fp∨w.heap.size<=k):dN fp w w2:=
 ⟨h2.os.trans h.os,h2.tape.trans h.tape,h2.output.trans h.output,jN h.size h2.size,fun k hk hn=>by
  rw [h2.block k (vF hk h.size) (fun hm=>by rcases hs k hm with h1|h1;exact hn h1;omega)]
  exact h.block k hk hn⟩
theorem dN.wide{fp':List Nat}(h:dN fp w w')(hs:∀ k∈fp,k∈fp'):dN fp' w w':=⟨h.os,h.tape,h.output,h.size,fun k hk hn=>h.block k hk (fun hm=>hn (hs k hm))⟩
theorem ZK(w:World)(m:Nat)(a:Addr):(w.drewN m).cell? a=w.cell? a:=by simp
theorem UX(v u:Value)(xs ys:List ByteArray)(w:World)(h:Nm.bP w v xs)(h':Nm.bP w u ys)(Pf:∀ x∈xs,x.size<=1000000000)(hlx:xs.length<=1000000000)(hly:ys.length<=1000000000):
 Calls Tryz.prog 94 #[v,u] w fun e w'=>e=.returned (.int .i64 (Nm.aN xs ys))∧∃ m,w'=w.drewN m:=by
 obtain⟨a,cap,rfl,gT,kV,FC,hc⟩:=h;obtain⟨a',cap',rfl,UY,PM,Jj,AX⟩:=h';clear FC Jj;go_enter Tryz.func94,Tryz.ntmps94;go_wp2
 go_loopw [5] (fun i wr=>∃ k:Nat,k<=xs.length∧k<=ys.length∧i=.int .i64 ((k:Int)+1)∧Hid (Nm.aN xs ys=Nm.dW (xs.reverse.drop k) (ys.reverse.drop k))∧∃ m,Hid (wr=w.drewN m))
  (fun i _=>xs.length+1-(intOf i).toNat)
 ·exact⟨0,dR _,dR _,rfl,by show _=_;simp [Nm.aN],0,rfl⟩
 obtain⟨k,hka,hkb,rfl,HT,m,HW⟩:=hrel
 by_cases h1:k<xs.length∧k<ys.length
 ·obtain⟨h1,h2⟩:=h1;have i1:(k:Int)+1<=(xs.length:Int):=by omega
  have i2:(k:Int)+1<=(ys.length:Int):=by omega
  obtain⟨x,hx⟩:∃ x,xs[xs.length-(k+1)]? =some x:=⟨_,gF (by omega)⟩;obtain⟨y,hy⟩:∃ y,ys[ys.length-(k+1)]? =some y:=⟨_,gF (by omega)⟩;obtain⟨b,off,rfl,aH⟩:=hc (by intro h;rw [h] at h1;simp at h1);obtain⟨b',off',rfl,nR⟩:=AX (by intro h;rw [h] at h2;simp at h2);have vS:wr.cell? ⟨b,off+(xs.length-(k+1)),none⟩=some (.string x):=by rw [HW.out,ZK];exact aH _ _ hx
  have hcy:wr.cell? ⟨b',off'+(ys.length-(k+1)),none⟩=some (.string y):=by rw [HW.out,ZK];exact nR _ _ hy
  have X8:=Pf x (dA hx);have q2:(xs.length:Int)-((k:Int)+1)<(xs.length:Int):=by omega
  have q3:((xs.length:Int)-((k:Int)+1)).toNat=xs.length-(k+1):=by omega
  have q5:(ys.length:Int)-((k:Int)+1)<(ys.length:Int):=by omega
  have q6:((ys.length:Int)-((k:Int)+1)).toNat=ys.length-(k+1):=by omega
  have hrx:=Nm.WZ h1 hx;have hry:=Nm.WZ h2 hy
  by_cases he:Nm.jP x y=0
  ·have HN:Hid (Nm.aN xs ys=Nm.dW (xs.reverse.drop (k+1)) (ys.reverse.drop (k+1))):=HT.out.trans (Nm.aCv hrx hry he);have XF:=fun W=>zP x y W X8
   rw [he] at XF;have hz:((0:Int) != 0)=false:=rfl;clear he hx hy hrx hry aH nR hc AX Pf;go_wp2;go_quiet ((go_at_call 129;exact Calls.quiet_of (XF _)))
   go_wp2;go_roundw
   ·exact⟨k+1,by omega,by omega,by go_num,HN,_,by show _=_;rw [HW.out,World.drewN_drewN]⟩
   simp [intOf];omega
  have HO:Hid (Nm.aN xs ys=Nm.jP x y):=HT.out.trans (Nm.Np hrx hry he);have XF:=fun W=>zP x y W X8
  have hz:(Nm.jP x y != 0)=true:=by rw [bne_iff_ne];exact he
  generalize Nm.jP x y=o at*;clear he hx hy hrx hry aH nR hc AX Pf;go_wp2;go_quiet ((go_at_call 129;exact Calls.quiet_of (XF _)))
  go_wp2;go_ret;rw [HO.out];exact⟨rfl,_,by rw [HW.out,World.drewN_drewN]⟩
 have HO:Hid (Nm.aN xs ys=Nm.pI xs.length ys.length):=by
  show _=_
  rw [HT.out,Nm.J7 (by simpa using hka) (by simpa using hkb) (by simp;omega)];simp
 clear hc AX Pf
 by_cases h2:k<xs.length
 ·have g1:(k:Int)+1<=(xs.length:Int):=by omega
  have g2:(ys.length:Int)<(k:Int)+1:=by omega
  clear h1;go_wp2_with fail
  refine(DW _ _ _).mono ?_;rintro e w3 ⟨rfl,rfl⟩;go_wp2;go_ret;rw [HO.out];exact⟨rfl,_,HW.out⟩
 have g1:(xs.length:Int)<(k:Int)+1:=by omega
 clear h1;go_wp2_with fail
 refine(DW _ _ _).mono ?_;rintro e w3 ⟨rfl,rfl⟩;go_wp2;go_ret;rw [HO.out];exact⟨rfl,_,HW.out⟩
def IC(w:World)(g:Nat)(l:List UInt8):Prop:=∀ j c,l[j]? =some c->w.cell? ⟨g,j,none⟩=some (.int .u8 c.toNat)∧w.frozen? ⟨g,j,none⟩=false
theorem IC.set{l:List UInt8}{d:UInt8}(h:IC w g l)(hk:k<l.length):IC (w.setCell ⟨g,k,none⟩ (.int .u8 d.toNat)) g (l.set k d):=by
 intro j c hj;obtain⟨x,hx⟩:=gQ hk
 by_cases e:k=j
 ·subst e;rw [List.getElem?_set_self hk] at hj;simp at hj;subst hj;exact⟨World.cell?_setCell_same _ _ _ (h k x hx).1,by rw [World.frozen?_setCell];exact(h k x hx).2⟩
 rw [List.getElem?_set_ne e] at hj;refine⟨?_,by rw [World.frozen?_setCell];exact(h j c hj).2⟩;rw [World.cell?_setCell_other w ⟨g,k,none⟩ ⟨g,j,none⟩ _ (by intro h;cases h;exact e rfl)];exact(h j c hj).1
theorem SF(s:ByteArray)(w:World):∃ cap W,s.size<=cap∧(s.size<=maxLen->cap<=maxLen)∧
 (convert 9 22 (.string s)).run Tryz.prog w=.ok (.slice (some ⟨w.heap.size,0,none⟩) s.size cap) W∧IC W w.heap.size s.data.toList∧Below w.heap.size w W:=by
 refine⟨_,_,grownCap_ge w s.size 0 5,grownCap_le_maxLen w s.size 0 5,run_bytes_of_string w 9 22 5 s Tryz.underlying9 Tryz.underlying22 Tryz.underlying5,?_,?_⟩
 ·intro j c hj
  have OE:j<s.data.size:=by
   have:=(dL hj).1;simpa using this
  have hc:s.data[j]=c:=by
   have:=(dL hj).2;simpa using this
  constructor
  ·have e:=cell_of_row (w.drew.alloc (.cells (bytesRow s (grownCap w s.size 0 5)) 5 ((bytesRow s (grownCap w s.size 0 5)).size,(bytesRow s (grownCap w s.size 0 5)).size+1))) w.heap.size j _ 5 _ (heap_alloc_new w.drew _);rw [e,bytesRow_at s _ j OE,hc]
  have e:=World.frozen?_alloc_mark w.drew (bytesRow s (grownCap w s.size 0 5)) 5 (bytesRow s (grownCap w s.size 0 5)).size ((bytesRow s (grownCap w s.size 0 5)).size+1) j;rw [show w.heap.size=w.drew.heap.size from rfl,e];have:s.data.size<=(bytesRow s (grownCap w s.size 0 5)).size:=by simp [bytesRow]
  simp;omega
 exact((aJ _ w).drew).alloc (aI _) _
theorem Y5{s:ByteArray}(h:i<s.size)(h2:i<255)(h0:s[i].toNat=0):Dt.fU 256 s i=s.extract 0 (i+1):=by
 rw [Dt.fU,dif_pos ⟨h,h2⟩,if_pos h0]
theorem aDk{s:ByteArray}(h:i<s.size)(h2:i<255)(h0:63<s[i].toNat):Dt.fU 256 s i=ByteArray.empty:=by
 rw [Dt.fU,dif_pos ⟨h,h2⟩,if_neg (by omega),if_pos h0]
theorem Y6{s:ByteArray}(h:i<s.size)(h2:i<255)(h0:s[i].toNat≠0)(h1:s[i].toNat<=63):Dt.fU 256 s i=Dt.fU 256 s (i+s[i].toNat+1):=by
 rw [Dt.fU,dif_pos ⟨h,h2⟩,if_neg h0,if_neg (by omega)];exact Dt.OQ _ _ _ _ (by omega) (by omega)
theorem Pg{s:ByteArray}(h:¬(i<s.size∧i<255)):Dt.fU 256 s i=ByteArray.empty:=by
 rw [Dt.fU,dif_neg h]
theorem Ed(s:ByteArray)(w:World):
 Calls Tryz.prog 154 #[.string s] w fun e w'=>e=.returned (.string (Dt.dQ s))∧w'=w:=by
 have H0:Dt.dQ s=Dt.fU 256 s 0:=rfl;go_enter Tryz.func154,Tryz.ntmps154;go_wp2
 go_loop [3] (fun v=>∃ i:Nat,i<=400∧v=.int .i64 i∧Dt.dQ s=Dt.fU 256 s i) (fun v=>400-(intOf v).toNat)
 ·exact⟨0,by omega,rfl,H0⟩
 obtain⟨i,hi,rfl,hn⟩:=hrel;clear H0
 by_cases h1:i<s.size
 ·have ZG:(i:Int)<(s.size:Int):=by omega
  by_cases h2:i<255
  ·have Ws:(i:Int)<255:=by omega
   have hc:(s[i].toNat:Int)<256:=by have:=s[i].toNat_lt;omega
   by_cases h3:s[i].toNat=0
   ·have HN:=Nm.aD (hn.trans (Y5 h1 h2 h3));have h3':((s[i].toNat:Int)==0)=true:=by rw [beq_iff_eq];omega
    clear hn;go_wp2;go_ret;rw [HN.out];exact⟨rfl,rfl⟩
   have h3':((s[i].toNat:Int)==0)=false:=by rw [fC];omega
   by_cases h4:63<s[i].toNat
   ·have HN:=Nm.aD (hn.trans (aDk h1 h2 h4));have Mt:(63:Int)<(s[i].toNat:Int):=by omega
    clear hn;go_wp2;go_ret;rw [HN.out];exact⟨rfl,rfl⟩
   have HN:=Nm.aD (hn.trans (Y6 h1 h2 h3 (by omega)));have Mt:(s[i].toNat:Int)<=63:=by omega
   clear hn;go_wp2
   go_round
   ·exact⟨i+s[i].toNat+1,by omega,by go_num,HN.out⟩
   simp [intOf];omega
  have HN:=Nm.aD (hn.trans (Pg (by omega)));have Ws:(255:Int)<=(i:Int):=by omega
  clear hn;go_wp2;go_ret;rw [HN.out];exact⟨rfl,rfl⟩
 have HN:=Nm.aD (hn.trans (Pg (by omega)));have ZG:(s.size:Int)<=(i:Int):=by omega
 clear hn;go_wp2;go_ret;rw [HN.out];exact⟨rfl,rfl⟩
theorem Y7(h:ls[k]? =some x):
 ((ls.take k).map (fun y=>Value.string (Nm.small y))++(ls.drop k).map Value.string).set k (.string (Nm.small x))=(ls.take (k+1)).map (fun y=>Value.string (Nm.small y))++(ls.drop (k+1)).map Value.string:=by
 have hk:k<ls.length:=(dL h).1;have hx:ls[k]=x:=(dL h).2;have hl:((ls.take k).map (fun y=>Value.string (Nm.small y))).length=k:=by simp;omega
 rw [Nm.jJ h,List.set_append_right _ _ (by omega),hl,List.drop_eq_getElem_cons hk,hx];simp
theorem mE(s:ByteArray)(w:World)(hs:s.size<=maxLen):
 Calls Tryz.prog 31 #[.string s] w fun e w'=>e=.returned (.string (Nm.dV s))∧Below w.heap.size w w':=by
 have lC:=gL s w hs
 cases hq:Nm.split s with
 |none=>
  have HA:=Nm.aD (Nm.MZ hq);rw [hq] at lC;clear hq;go_enter Tryz.func31,Tryz.ntmps31;go_wp2_with fail
  refine lC.mono ?_;rintro e w1 ⟨v,rfl,aU,aG⟩;go_wp2;go_ret;rw [HA.out]
  exact⟨rfl,aG⟩
 |some ls=>
  have hz:=Nm.dK hq;have HA:=Nm.aD (Nm.oK hq);have HJ:=Nm.aD (Nm.vG hq);have Pf:=(Nm.jB hq).2;have YQ:=Nm.bL ls;rw [hq] at lC;clear hq;go_enter Tryz.func31,Tryz.ntmps31;go_wp2_with fail
  refine lC.mono ?_;rintro e w1 ⟨v,rfl,aU,aG⟩;simp only [Option.getD_some] at aU;clear lC
  by_cases hn:ls=[]
  ·subst hn;have dI:=Nm.bP.aP aU;obtain⟨a,cap,rfl,gT,kV,FC,hc⟩:=dI;have hr:=Nm.bP.aP aU;clear aU hc FC;go_wp2
   go_loop [5] (fun i=>i=.int .i64 0) (fun _=>0)
   ·rfl
   subst hrel;go_wp2_with (go_at_call 19;refine(bV _ [] _ hr (by simp [Nm.cK])).mono ?_;rintro e w2 ⟨rfl,gX⟩)
   go_ret;rw [HA.out,<- HJ.out];exact⟨rfl,Nm.aC aG gX⟩
  have hlp:0<ls.length:=List.length_pos_iff.2 hn
  obtain⟨g,cap,cur,rfl,hg⟩:∃ g cap cur,v=.slice (some ⟨g,0,none⟩) ls.length cap∧w.heap.size<=g∧ls.length<=cap∧cap<=maxLen∧w1.heap[g]? =some (.cells cur 9 (0,0)):=by
   rcases aU.2 with⟨rfl,h0⟩|⟨g,cap,cur,rfl,hb,hg,Nh,hm,_⟩
   ·omega
   exact⟨g,cap,cur,rfl,hb,Nh,hm,hg⟩
  obtain⟨hwg,Nh,hm,_⟩:=hg;unfold maxLen at hm;go_wp2
  go_loopw [5] (fun i wr=>∃ k:Nat,k<=ls.length∧i=.int .i64 k∧wr.ownsRow w.heap.size 9 1 (.slice (some ⟨g,0,none⟩) ls.length cap) ls.length ((ls.take k).map (fun y=>Value.string (Nm.small y))++(ls.drop k).map Value.string)∧Below w.heap.size w wr)
   (fun i _=>ls.length-(intOf i).toNat)
  ·exact⟨0,dR _,rfl,by simpa using aU,aG⟩
  obtain⟨k,hk,rfl,sZ,BM⟩:=hrel;have aHz:=BM.size;clear aU aG
  by_cases bY:k<ls.length
  ·obtain⟨x,hx⟩:=gQ bY;have X8:=Pf x (dA hx)
   have vS:wr.cell? ⟨g,k,none⟩=some (.string x):=by
    rw [sZ.cellAt k (by omega),List.getElem?_append_right (by simp;omega)];simp [Nat.min_eq_left hk,hx]
   have aQn:=Nm.aD (Y7 hx);go_wp2_with (go_at_call 73;refine(PK x _ (by omega)).mono ?_;rintro e w3 ⟨rfl,qC⟩;have gW:=sZ.kept (w':=w3) (row:=none) ⟨qC.os,qC.tape,qC.output,qC.size,fun k hk _=>qC.block k hk⟩ (.inr (by simp [Value.ownBlock]));have mI:=gW.stored k (.string (Nm.small x));rw [aQn.out] at mI;have Xf:=gW.frozenAt k;have hc3:w3.cell? ⟨g,k,none⟩=some (.string x):=(qC.cell (fD wr _ vS)).trans vS;have HR:=Nm.aD mI;have HB:Hid (Below w.heap.size w (w3.setCell ⟨g,k,none⟩ (.string (Nm.small x)))):=(BM.trans (qC.mono aHz)).setCell hwg _;clear mI gW)
   go_roundw
   ·exact⟨k+1,by omega,by go_num,HR.out.1,HB.out⟩
   simp [intOf];omega
  have mK:k=ls.length:=by omega
  subst mK
  have hr:Nm.bP wr (.slice (some ⟨g,0,none⟩) ls.length cap) (ls.map Nm.small):=by
   apply Nm.bP.aP (B:=w.heap.size) (e:=9);simpa [Function.comp_def] using sZ
  have Xd:=Nm.DK ls;clear sZ bY;go_wp2_with (go_at_call 19;refine(bV _ (ls.map Nm.small) _ hr (by omega)).mono ?_;rintro e w2 ⟨rfl,gX⟩)
  go_ret;rw [HA.out,<- HJ.out];exact⟨rfl,Nm.aC BM gX⟩
theorem Y8{a b:ByteArray}(h:Nm.split a=none):Nm.sH a b=0:=by simp [Nm.sH,h]
theorem Xg{a b:ByteArray}(h:Nm.split b=none):Nm.sH a b=0:=by
 cases ha:Nm.split a<;>simp [Nm.sH,h,ha]
theorem Y9{a b:ByteArray}{xs ys:List ByteArray}(ha:Nm.split a=some xs)(hb:Nm.split b=some ys):Nm.sH a b=Nm.aN xs ys:=by simp [Nm.sH,ha,hb]
theorem Jk(a b:ByteArray)(w:World):
 Calls Tryz.prog 181 #[.string a,.string b] w fun e w'=>e=.returned (.int .i64 (Nm.iV a.toList b.toList))∧w'=w:=by
 cases h1:Op.bytesLess a.toList b.toList with
 |true=>
  have HC:Hid (Nm.iV a.toList b.toList= -1):=by show _=_;simp [Nm.iV,h1]
  go_enter Tryz.func181,Tryz.ntmps181;go_wp2;go_ret;rw [HC.out]
  exact⟨rfl,rfl⟩
 |false=>
  cases h2:(a.toList==b.toList) with
  |true=>
   have HC:Hid (Nm.iV a.toList b.toList=0):=by show _=_;rw [Nm.iV,if_neg (by simp [h1]),if_pos (beq_iff_eq.1 h2)]
   go_enter Tryz.func181,Tryz.ntmps181;go_wp2;go_ret;rw [HC.out]
   exact⟨rfl,rfl⟩
  |false=>
   have HC:Hid (Nm.iV a.toList b.toList=1):=by show _=_;simp [Nm.iV,h1,fC.1 h2]
   go_enter Tryz.func181,Tryz.ntmps181;go_wp2;go_ret;rw [HC.out];exact⟨rfl,rfl⟩
def RB(w:World)(g:Nat)(r:Rr):Prop:=w.cell? ⟨g,0,none⟩=some (.string r.own)∧w.cell? ⟨g,1,none⟩=some (.int .i64 r.ty)∧w.cell? ⟨g,2,none⟩=some (.int .i64 r.cl)∧w.cell? ⟨g,3,none⟩=some (.int .i64 r.tt)∧w.cell? ⟨g,4,none⟩=some (.string r.da)
theorem RB.below{r:Rr}(h:RB w g r)(hb:Below w.heap.size w W):RB W g r:=by
 obtain⟨a,b,c,d,e⟩:=h;have put:∀ {O:Nat} {z:Value},w.cell? ⟨g,O,none⟩=some z->W.cell? ⟨g,O,none⟩=some z:=fun h=>(hb.cell (fD w _ h)).trans h
 exact⟨put a,put b,put c,put d,put e⟩
theorem RB.new(w:World)(r:Rr)(t:Nat):RB (w.alloc (.cells #[.string r.own,.int .i64 r.ty,.int .i64 r.cl,.int .i64 r.tt,.string r.da] t)) w.heap.size r:=by
 refine⟨?_,?_,?_,?_,?_⟩<;>simp
theorem NH(n m:Int)(w:World):Calls Tryz.prog 52 #[.int .i64 n,.int .i64 m] w fun e w'=>e=.returned (.bool (decide (0<=n)&&decide (n<=m)))∧w'=w:=by
 by_cases h0:0<=n
 ·by_cases h1:n<=m
  ·have e:(decide (0<=n)&&decide (n<=m))=true:=by simp [h0,h1]
   rw [e];clear e;go_enter Tryz.func52,Tryz.ntmps52;go_wp2;go_ret;exact⟨rfl,rfl⟩
  have ZG:m<n:=by omega
  have e:(decide (0<=n)&&decide (n<=m))=false:=by simp [h0,h1]
  rw [e];clear e;go_enter Tryz.func52,Tryz.ntmps52;go_wp2;go_ret;exact⟨rfl,rfl⟩
 have K8:n<0:=by omega
 have e:(decide (0<=n)&&decide (n<=m))=false:=by simp [h0]
 rw [e];clear e;go_enter Tryz.func52,Tryz.ntmps52;go_wp2;go_ret;exact⟨rfl,rfl⟩
theorem Y_(n m:Int)(w:World):Calls Tryz.prog 121 #[.int .i64 n,.int .i64 m] w fun e w'=>e=.returned (.bool (decide (0<=n)&&decide (n<=m)))∧w'=w:=by
 by_cases h0:0<=n
 ·by_cases h1:n<=m
  ·have e:(decide (0<=n)&&decide (n<=m))=true:=by simp [h0,h1]
   rw [e];clear e;go_enter Tryz.func121,Tryz.ntmps121;go_wp2;go_ret;exact⟨rfl,rfl⟩
  have ZG:m<n:=by omega
  have e:(decide (0<=n)&&decide (n<=m))=false:=by simp [h0,h1]
  rw [e];clear e;go_enter Tryz.func121,Tryz.ntmps121;go_wp2;go_ret;exact⟨rfl,rfl⟩
 have K8:n<0:=by omega
 have e:(decide (0<=n)&&decide (n<=m))=false:=by simp [h0]
 rw [e];clear e;go_enter Tryz.func121,Tryz.ntmps121;go_wp2;go_ret;exact⟨rfl,rfl⟩
theorem aDl{s:ByteArray}(h:(Nm.split s).isSome=true):Dt.sz .nm s=some s.size:=by
 obtain⟨h1,h2⟩:=(Dt.GX s).1 h;rw [Dt.sz,if_neg h1,h2]
theorem Z0{s:ByteArray}(h:(Nm.split s).isSome=false):Dt.sz .nm s=none∨∃ n,Dt.sz .nm s=some n∧n≠s.size:=by
 by_cases h0:(Dt.dQ s).size=0
 ·left;rw [Dt.sz,if_pos h0]
 right;refine⟨_,by rw [Dt.sz,if_neg h0],?_⟩;intro e;rw [(Dt.GX s).2 ⟨h0,e⟩] at h;simp at h
theorem VZ(s:ByteArray)(w:World):
 Calls Tryz.prog 69 #[.string s] w fun e w'=>e=.returned (.bool (Nm.split s).isSome)∧w'=w:=by
 have aX:=PI s
 cases hq:(Nm.split s).isSome with
 |true=>
  rw [aDl hq] at aX;simp only [szV,Option.getD_some,Option.isSome_some] at aX;clear hq;go_enter Tryz.func69,Tryz.ntmps69;go_wp2_with (go_at_call 113;refine(aX _).mono ?_;rintro e w1 ⟨rfl,rfl⟩)
  go_ret
  exact⟨rfl,rfl⟩
 |false=>
  rcases Z0 hq with h|⟨n,h,hn⟩
  ·rw [h] at aX;simp only [szV,Option.getD_none,Option.isSome_none] at aX;clear hq h;go_enter Tryz.func69,Tryz.ntmps69;go_wp2_with (go_at_call 113;refine(aX _).mono ?_;rintro e w1 ⟨rfl,rfl⟩)
   go_ret;exact⟨rfl,rfl⟩
  rw [h] at aX;simp only [szV,Option.getD_some,Option.isSome_some] at aX;have hb:((n:Int)==(s.size:Int))=false:=by rw [fC];omega
  have jW:(n==s.size)=false:=by rw [fC];omega
  clear hq h;go_enter Tryz.func69,Tryz.ntmps69;go_wp2_with (go_at_call 113;refine(aX _).mono ?_;rintro e w1 ⟨rfl,rfl⟩)
  go_ret;exact⟨rfl,rfl⟩
theorem nK(s:ByteArray)(w:World)(_:s.size<=maxLen):
 Calls Tryz.prog 27 #[.string s] w fun e w'=>∃ v,e=.returned (.tuple #[v,.bool (Nm.split s).isSome])∧
  w'.ownsRow w.heap.size 9 1 v ((Nm.split s).getD []).length (((Nm.split s).getD []).map Value.string)∧Below w.heap.size w w':=by
 obtain⟨i0,hi,iQ,iH,iI⟩:=info_parts Tryz.wM;have aX:=VZ s
 cases hq:Nm.split s with
 |none=>
  rw [hq] at aX;simp only [Option.isSome_none] at aX;clear hq;go_enter Tryz.func27,Tryz.ntmps27;go_wp2_with (go_at_call 69;refine(aX _).mono ?_;rintro e w1 ⟨rfl,hw⟩;obtain rfl:w=w1:=hw.symm;clear hw)
  go_ret2
  exact⟨_,rfl,World.ownsRow_nil _ _ _ _,aJ _ _⟩
 |some L=>
  have hz:=Nm.dK hq;have mI:=Nm.YE s hz.2;have HQ:=Nm.aD hq;rw [hq] at aX;simp only [Option.isSome_some] at aX;clear hq;have hz2':=hz.2;clear hz;go_enter Tryz.func27,Tryz.ntmps27;go_wp2_with (go_at_call 69;refine(aX _).mono ?_;rintro e w1 ⟨rfl,hw⟩;obtain rfl:w=w1:=hw.symm;clear hw)
  go_loopw [4,5] (fun v x wr=>∃ (ls:List ByteArray) (r:ByteArray),x=.string r∧Nm.At s ls r∧ls.length+r.size<=255∧wr.ownsRow w.heap.size 9 1 v ls.length (ls.map Value.string)∧Below w.heap.size w wr)
   (fun _ x _=>match x with|.string r=>r.size|_=>0)
  ·exact⟨[],s,rfl,mI,by simp;omega,World.ownsRow_nil _ _ _ _,aJ _ _⟩
  obtain⟨ls,r,rfl,jH,hb,aU,aG⟩:=hrel;clear mI;have hq:=HQ.out
  by_cases h0:r.size=0
  ·rw [Nm.YF jH h0] at hq;simp at hq
  have hp:0<r.size:=by omega
  have hn:(r[0].toNat:Int)<256:=by have:=r[0].toNat_lt;omega
  by_cases h1:r.size=1∧r[0].toNat=0
  ·have hL:L=ls:=by
    have:=Nm.at_end jH hp h1.2 h1.1;rw [hq] at this;simpa using this
   have e1:=Nm.aKi hp h1.1 h1.2;have e1':(r.toList != [0])=false:=by rw [bne,e1];rfl
   clear h1 hq HQ;go_wp2;go_ret2;rw [hL];exact⟨_,rfl,aU,aG⟩
  have e1:=Nm.Wq hp h1;have e1':(r.toList != [0])=true:=by rw [bne,e1];rfl
  by_cases h2:r[0].toNat=0
  ·rw [Nm.J4 jH hp h2 (fun h=>h1 ⟨h,h2⟩)] at hq;simp at hq
  by_cases h3:63<r[0].toNat∨r.size<r[0].toNat+1
  ·rw [Nm.Wo jH hp h2 h3] at hq;simp at hq
  have e4:(r[0].toNat:Int)<=63:=by omega
  have e5:(r[0].toNat:Int)+1<=(r.size:Int):=by omega
  have HN:Hid (Nm.At s (ls++[r.extract 1 (r[0].toNat+1)]) (r.extract (r[0].toNat+1) r.size)):=Nm.J5 jH hp h2 (by omega) (by omega);have qA:=aG.size;clear h2 h1 h0 h3 hq HQ;go_wp2_with (at_builtin;refine wpList_append_own _ rfl (.tmp 16) (.tmp 21) 63 rfl w.heap.size 9 i0 (.string ByteArray.empty) 1 16 Tryz.underlying63 hi iQ iH iI rfl (by decide) _ _ _ rfl (aU.alloc _) ⟨wr.heap.size,0,none⟩ 1 1 [.string (r.extract 1 (1+r[0].toNat))] rfl rfl (lZ _ _ _) (Nm.one_cell _ rfl) (by unfold maxLen;omega) (by omega) (by simp;omega) ?_)
  intro v' w1 dE bU _;have R:=lY qA aU aG _ dE bU;clear dE bU aU aG;go_wp2;go_roundw
  ·exact⟨_,_,rfl,by simpa [Nat.add_comm] using HN.out,by simp;omega,R.1,R.2⟩
  simp;omega
theorem gM(a b:ByteArray)(w:World)(ha:a.size<=maxLen)(hb:b.size<=maxLen):
 Calls Tryz.prog 13 #[.string a,.string b] w fun e w'=>e=.returned (.bool (eQ a b))∧Below w.heap.size w w':=by
 have WA:=mE a w ha;have rW:=fun W=>mE b W hb
 cases IE:Nm.split a with
 |none=>
  have HA:=Nm.aD (X4 (b:=b) IE);rw [Nm.MZ IE] at WA;have he:(ByteArray.empty).toList.isEmpty=true:=Nm.YG rfl;clear IE;go_enter Tryz.func13,Tryz.ntmps13;go_wp2_with fail
  refine WA.mono ?_;rintro e w1 ⟨rfl,aG⟩;go_wp2;go_ret;rw [HA.out]
  exact⟨rfl,aG⟩
 |some xs=>
  rw [Nm.oK IE] at WA;have he:=X5 IE
  cases LM:Nm.split b with
  |none=>
   have HA:=Nm.aD (Wx (a:=a) LM);rw [Nm.MZ LM] at rW
   have dM:((Nm.small a).toList==(ByteArray.empty).toList)=false:=by
    rw [fC];intro e;rw [e] at he;rw [Nm.YG rfl] at he;simp at he
   clear IE LM;generalize Nm.small a=x at*;go_enter Tryz.func13,Tryz.ntmps13;go_wp2_with fail
   refine WA.mono ?_;rintro e w1 ⟨rfl,aG⟩;go_wp2_with fail
   refine(rW _).mono ?_;rintro e w2 ⟨rfl,gX⟩;go_wp2;go_ret;rw [HA.out]
   exact⟨rfl,Nm.aC aG gX⟩
  |some ys=>
   have HA:=Nm.aD (RY IE LM);have HE:=Nm.aD (aCz a b);rw [Nm.oK LM] at rW;clear IE LM;generalize Nm.small a=x at*;generalize Nm.small b=y at*;go_enter Tryz.func13,Tryz.ntmps13;go_wp2_with fail
   refine WA.mono ?_;rintro e w1 ⟨rfl,aG⟩;go_wp2_with fail
   refine(rW _).mono ?_;rintro e w2 ⟨rfl,gX⟩;go_wp2;go_ret;rw [HA.out,<- HE.out];exact⟨rfl,Nm.aC aG gX⟩
theorem set4{cs:List Value}{A:List Value}(a b c d:Value)(hl:k*4+4<=cs.length)(h:cs.take (k*4)=A):
 ((((cs.set (k*4) a).set (k*4+1) b).set (k*4+2) c).set (k*4+3) d).take ((k+1)*4)=A++[a,b,c,d]:=by
 have hs:cs=cs.take (k*4)++cs.drop (k*4):=(List.take_append_drop _ _).symm;have nV:4<=(cs.drop (k*4)).length:=by simp;omega
 have nZ:(cs.take (k*4)).length=k*4:=by simp;omega
 rw [h] at hs nZ;obtain⟨q,hq⟩:∃ q,q=cs.drop (k*4):=⟨_,rfl⟩;rw [<- hq] at hs nV
 match q,nV with
 |y0::y1::y2::y3::r,_=>
  rw [hs];simp only [List.set_append,nZ,Nat.lt_irrefl,if_false,Nat.sub_self,show ¬(k*4+1<k*4) by omega,show ¬(k*4+2<k*4) by omega,show ¬(k*4+3<k*4) by omega,Nat.add_sub_cancel_left];simp only [List.set_cons_zero,List.set_cons_succ];rw [List.take_append,nZ,show(k+1)*4-k*4=4 by omega,List.take_of_length_le (by omega)];rfl
theorem Tryz.XG:(Tryz.prog.info? 42).map (fun i=>(i.zero,i.size,i.bytes))=some (some (.agg #[.string ByteArray.empty,.int .i64 0,.int .i64 0,.slice none 0 0]),4,56):=by kernel_rfl
theorem nD{K:Act->World->Prop}{Q:Exit->Act->World->Prop}{E:Prop}(W9:o.guard=none)(s x:Operand)(t:TypeId)
 (ho:o.op=.call {callee:=.builtin .append,args:=#[s,x],argTypes:=#[t,t]})
 (base:Nat) (e:TypeId) (i:TypeInfo) (z:Value) (size bytes:Nat) (ht:P.underlying t=some (.slice e)) (hi:P.info? e=some i) (hz:i.zero=some z)
 (UZ:i.size=size) (hby:i.bytes=bytes) (uO:z.cells.size=size) (qA:0<size)
 (v:Value) (n:Nat) (xs:List Value) (hs:a.eval s=v) (aU:w.ownsRow base e size v n xs)
 (ad:Addr) (m c:Nat) (news:List Value) (hx:a.eval x=.slice (some ad) m c) (hl:news.length=m*size) (Gq:∀ j u,news[j]? =some u->w.cell? (ad.add j)=some u) (h1:∀ u∈news,u.oneCell'=true)
 (h63:n+m<=maxLen) (ZM:(n+m)*bytes<=140737488355328) (Pi:base<=w.heap.size)
 (h:∀ v' w',w'.ownsRow base e size v' (n+m) (xs++news)->w.grownBy w' v.ownBlock->(v'=.slice none 0 0↔v=.slice none 0 0∧m=0)->K (a.put o.dst v') w'):
 if Region.wanted o (yielded ops a.tmps)=true then Oper.wp P o a w K Q else E:=by
 have hw:Region.wanted o (yielded ops a.tmps)=true:=by simp [Region.wanted,W9]
 rw [if_pos hw];exact wp_append_own w s x t ho base e i z size bytes ht hi hz UZ hby uO qA v n xs hs aU ad m c news hx hl Gq h1 h63 ZM Pi h
def BN(x:ByteArray):Bool:=decide (x.size<1∨63<x.size)
def lT(ls:List ByteArray):ByteArray×Int:=
 if 127<ls.length then(ByteArray.empty,3)
 else if ls.any BN then(ByteArray.empty,2)
 else if 255<1+Nm.cK ls then(ByteArray.empty,3)
 else(⟨(Nm.joinL ls).toArray⟩,0)
theorem Z8:∀ (ls:List ByteArray),ls.any BN=false->Nm.cK ls<=64*ls.length:=by
 intro ls
 induction ls with
 |nil=>intro _;simp [Nm.cK]
 |cons x r ih=>
  intro h;simp only [List.any_cons,Bool.or_eq_false_iff] at h;have h1:¬(x.size<1∨63<x.size):=by simpa [BN] using h.1
  have:=ih h.2;simp only [Nm.cK,List.length_cons];omega
theorem aDm(h:ls[k]? =some x)(h0:(ls.take k).any BN=false)(hg:¬(x.size<1∨63<x.size)):(ls.take (k+1)).any BN=false:=by
 have:BN x=false:=by simpa [BN] using hg
 rw [Nm.jJ h];simp [h0,this]
theorem aH0(h:ls[k]? =some x)(hg:x.size<1∨63<x.size):ls.any BN=true:=by
 rw [List.any_eq_true];exact⟨x,dA h,by simpa [BN] using hg⟩
theorem Pj(h:ls.length<=127)(hb:ls.any BN=true):lT ls=(ByteArray.empty,2):=by
 rw [lT,if_neg (by omega),if_pos hb]
theorem SG(h:127<ls.length):lT ls=(ByteArray.empty,3):=by rw [lT,if_pos h]
theorem SH(h:ls.length<=127)(hb:ls.any BN=false)(hl:255<1+Nm.cK ls):lT ls=(ByteArray.empty,3):=by
 rw [lT,if_neg (by omega),if_neg (by simp [hb]),if_pos hl]
theorem SI(h:ls.length<=127)(hb:ls.any BN=false)(hl:¬255<1+Nm.cK ls):lT ls=(⟨(Nm.joinL ls).toArray⟩,0):=by
 rw [lT,if_neg (by omega),if_neg (by simp [hb]),if_neg hl]
theorem Z9(h:ls.length<=127)(hb:ls.any BN=false):lT ls=(GK ls,GL ls):=by
 by_cases hl:255<1+Nm.cK ls
 ·rw [SH h hb hl,GK,GL,if_pos hl,if_pos hl]
 rw [SI h hb hl,GK,GL,if_neg hl,if_neg hl]
theorem aDn:∀ (ls:List ByteArray),(∀ x∈ls,1<=x.size∧x.size<=63)->2*ls.length<=Nm.cK ls:=by
 intro ls
 induction ls with
 |nil=>intro _;simp
 |cons x r ih=>
  intro h;have h1:=h x List.mem_cons_self;have h2:=ih (fun y hy=>h y (List.mem_cons_of_mem _ hy));simp only [Nm.cK,List.length_cons];omega
theorem Jl(h:∀ x∈ls,1<=x.size∧x.size<=63):lT ls=(GK ls,GL ls):=by
 have hb:ls.any BN=false:=by
  rw [List.any_eq_false];intro x hx;have h1:=h x hx;have h2:BN x=false:=by rw [BN,oF];omega
  simp [h2]
 by_cases hl:127<ls.length
 ·have:=aDn ls h;rw [SG hl,GK,GL,if_pos (by omega),if_pos (by omega)]
 exact Z9 (by omega) hb
def WC(s:ByteArray)(n:Int):ByteArray×Int:=
 match Nm.split s with
 |none=>(ByteArray.empty,32)
 |some ls=>if 0<=n∧n<=ls.length then(⟨(Nm.joinL (ls.drop n.toNat)).toArray⟩,0) else(ByteArray.empty,32)
def ZL(ps:List Zp):Prop:=wP ps<=1048576∧ps.length<=1048576∧∀ p∈ps,p.1.own.size<=1048576∧p.1.da.length<=1048576∧∀ x∈p.1.da,x.size<=1048576
def intCells(l:List Int):List Value:=l.map fun x=>.int .i64 x
theorem yC{K:Act->World->Prop}{Q:Exit->Act->World->Prop}{E:Prop}(W9:o.guard=none)(s x:Operand)(t:TypeId)
 (ho:o.op=.call {callee:=.builtin .append,args:=#[s,x],argTypes:=#[t,t]})
 (base:Nat) (e:TypeId) (i:TypeInfo) (z:Value) (size bytes:Nat) (ht:P.underlying t=some (.slice e)) (hi:P.info? e=some i) (hz:i.zero=some z)
 (UZ:i.size=size) (hby:i.bytes=bytes) (uO:z.cells.size=size) (qA:0<size)
 (v:Value) (n:Nat) (xs:List Value) (hs:a.eval s=v) (aU:w.ownsRow base e size v n xs)
 (ad:Addr) (m c:Nat) (news:List Value) (hx:a.eval x=.slice (some ad) m c) (hl:news.length=m*size) (Gq:∀ j u,news[j]? =some u->w.cell? (ad.add j)=some u) (h1:∀ u∈news,u.oneCell'=true)
 (h63:n+m<=maxLen) (ZM:(n+m)*bytes<=140737488355328) (Pi:base<=w.heap.size)
 (h:∀ v' w',w'.ownsRow base e size v' (n+m) (xs++news)->w.grownBy w' v.ownBlock->(v'=.slice none 0 0↔v=.slice none 0 0∧m=0)->(v'.ownBlock=v.ownBlock∨v'.ownBlock=some w.heap.size)->K (a.put o.dst v') w'):
 if Region.wanted o (yielded ops a.tmps)=true then Oper.wp P o a w K Q else E:=by
 have hw:Region.wanted o (yielded ops a.tmps)=true:=by simp [Region.wanted,W9]
 rw [if_pos hw];obtain⟨v',w',hr,h2,h3,h4,h5⟩:=run_append_own_at (P:=P) w base t o.type e i z size bytes ht hi hz UZ hby uO qA v n xs aU ad m c news hl Gq h1 h63 ZM Pi;unfold Oper.wp execOp;simp only [ho,resolve,invoke,builtin,Sem.run_bind,Sem.run_pure,Result.andThen_ok,List.map_toArray,List.map_cons,List.map_nil,hs,hx,hr];exact h v' w' h2 h3 h4 h5
theorem Tryz.XH:(Tryz.prog.info? 133).map (fun i=>(i.zero,i.size,i.bytes))=some (some (.agg #[.string ByteArray.empty,.int .i64 0,.int .i64 0,.int .i64 0,.string ByteArray.empty]),5,56):=by kernel_rfl
theorem Z_{rest:List Oper}{Q:Exit->Act->World->Prop}(W9:o.guard=none)(x:Operand)(t:TypeId)(ho:o.op=.call {callee:=.builtin .clear,args:=#[x],argTypes:=#[t]})(v:Value)(hx:a.eval x=v)
 (hr:(Builtin.clear_ #[t] o.type #[v]).run P w=.ok (.tuple #[]) w') (h:wpList P ops Q rest (a.put o.dst (.tuple #[])) w'):wpList P ops Q (o::rest) a w:=
 wpList_plain W9 fun _ hK=>by
  unfold Oper.wp;simp [execOp,ho,resolve,invoke,builtin,hx,hr,Result.andThen]
  exact hK _ _ h
theorem iL(ls:List ByteArray):(⟨(Nm.joinL ls).toArray⟩:ByteArray).size=Nm.cK ls+1:=by
 rw [DV,Nm.mW]
theorem xI(ls:List ByteArray)(x:ByteArray):Nm.cK (ls++[x])=Nm.cK ls+(1+x.size):=by
 rw [Nm.mP];simp [Nm.cK]
theorem BO{w3 wb:World}{cap:Nat}{a:Option Addr}{vb:Value}{o:Obj}
 (aU:w3.ownsRow w.heap.size e 1 v ls.length (ls.map Value.string)) (kK:Src w3 g a n cap) (hg:w.grownBy w3 (some g)) (bY:g<w.heap.size) (gJ:qX w g a n)
 (dE:wb.ownsRow w.heap.size e 1 vb (ls.length+1) (ls.map Value.string++[.string x])) (bU:(w3.alloc o).grownBy wb v.ownBlock):
 wb.ownsRow w.heap.size e 1 vb (ls++[x]).length ((ls++[x]).map Value.string)∧Src wb g a n cap∧w.grownBy wb (some g):=by
 have dI:∀ q,v.ownBlock=some q->w.heap.size<=q:=fun q hq=>(aU.lt q hq).1
 exact⟨by simpa using dE,KF (aZ kK ((aJ _ _).alloc (aI _) _)) bU dI bY gJ,BJ (dP hg _) bU dI⟩
theorem ZN{rest:List Oper}{Q:Exit->Act->World->Prop}(W9:o.guard=none)(s x:Operand)(t t2:TypeId)
 (ho:o.op=.call {callee:=.builtin .append,args:=#[s,x],argTypes:=#[t,t2]}) (v u v':Value) (w':World) (hs:a.eval s=v) (hx:a.eval x=u)
 (hr:(Builtin.append_ #[t,t2] o.type #[v,u]).run P w=.ok v' w') (h:wpList P ops Q rest (a.put o.dst v') w'):wpList P ops Q (o::rest) a w:=
 wpList_plain W9 fun _ hK=>by
  unfold Oper.wp execOp;simp only [ho,resolve,invoke,builtin,Sem.run_bind,Sem.run_pure,Result.andThen_ok,List.map_toArray,List.map_cons,List.map_nil,hs,hx,hr];exact hK _ _ h
def spl(cs:Array Value):Nat->List Value->Array Value
 |_,[]=>cs
 |o,v::r=>spl (cs.setIfInBounds o v) (o+1) r
def put2(n:Nat):List UInt8:=[UInt8.ofNat (n / 256),UInt8.ofNat (n % 256)]
theorem put2_step{wr w1:World}{v':Value}{l:List Value}{x:Value}(hB:B<=wr.heap.size)
 (aU:wr.ownsRow B e 1 v n l) (aG:Below B W wr) (o:Obj) (bU:(wr.alloc o).grownBy w1 v.ownBlock)
 (dE:w1.ownsRow B e 1 v' (n+1) (l++[x])):
 w1.ownsRow B e 1 v' (n+1) (l++[x])∧Below B W w1:=by
 refine⟨dE,?_⟩;refine(aG.alloc hB o).grown bU (by simp;omega) ?_;intro k hk;exact(aU.lt k hk).1
def Xh:List Nat:=[1,2,5,6,12,13,15,16,28,33,35,39,47,257,1,2,15,28,99,65280]
theorem M0{t:Nat}(h:t∈Xh):1<=t∧t<65536:=by
 simp [Xh] at h
 omega
theorem Pk(g:Nat)(a:Option Addr)(n cap:Nat)(w:World)(h:Src w g a n cap):
 Calls Tryz.prog 39 #[.pointer (some ⟨g,0,none⟩)] w fun e w'=>∃ t:Nat,e=.returned (.int .i64 (t:Int))∧t∈Xh∧Src w' g a n cap∧w.grownBy w' (some g):=by
 obtain⟨gJ,zD⟩:=qK h;have hk:=aK w #[.int .i64 1,.int .i64 2,.int .i64 5,.int .i64 6,.int .i64 12,.int .i64 13,.int .i64 15,.int .i64 16,.int .i64 28,.int .i64 33,.int .i64 35,.int .i64 39,.int .i64 47,.int .i64 257,.int .i64 1,.int .i64 2,.int .i64 15,.int .i64 28,.int .i64 99,.int .i64 65280] 2;have hA:w.grownBy (w.alloc (.cells #[.int .i64 1,.int .i64 2,.int .i64 5,.int .i64 6,.int .i64 12,.int .i64 13,.int .i64 15,.int .i64 16,.int .i64 28,.int .i64 33,.int .i64 35,.int .i64 39,.int .i64 47,.int .i64 257,.int .i64 1,.int .i64 2,.int .i64 15,.int .i64 28,.int .i64 99,.int .i64 65280] 2)) (some g):=dP (World.grownBy.refl _ _) _;have hS:=aZ h ((aJ _ _).alloc (aI _) (.cells #[.int .i64 1,.int .i64 2,.int .i64 5,.int .i64 6,.int .i64 12,.int .i64 13,.int .i64 15,.int .i64 16,.int .i64 28,.int .i64 33,.int .i64 35,.int .i64 39,.int .i64 47,.int .i64 257,.int .i64 1,.int .i64 2,.int .i64 15,.int .i64 28,.int .i64 99,.int .i64 65280] 2));go_enter Tryz.func39,Tryz.ntmps39
 go_wp2_with (
  go_at_call 18
  refine(aW g a n cap 20 _ hS (by decide)).mono ?_;rintro e w1 ⟨r,rfl,GU,uG,M3,aAa⟩;have wR:=uG (by decide);obtain⟨i,rfl⟩:=Int.eq_ofNat_of_zero_le GU;have hi:i<20:=by omega
  obtain⟨t,ht⟩:∃ t,Xh[i]? =some t:=⟨_,gF (by simpa [Xh] using hi)⟩;have LJ:=aO hk aAa (by intro e;cases e;omega)
  have mQ:w1.cell? ⟨w.heap.size,i,none⟩=some (.int .i64 (t:Int)):=by
   rw [aA LJ i];have e:#[.int .i64 1,.int .i64 2,.int .i64 5,.int .i64 6,.int .i64 12,.int .i64 13,.int .i64 15,.int .i64 16,.int .i64 28,.int .i64 33,.int .i64 35,.int .i64 39,.int .i64 47,.int .i64 257,.int .i64 1,.int .i64 2,.int .i64 15,.int .i64 28,.int .i64 99,.int .i64 65280]=(Xh.map (fun t:Nat=>Value.int .i64 (t:Int))).toArray:=rfl;rw [e,List.getElem?_toArray,List.getElem?_map,ht];rfl
  clear uG hk LJ)
 go_ret;exact⟨t,rfl,dA ht,M3,aS hA aAa⟩
theorem Jm(g:Nat)(a:Option Addr)(n cap:Nat)(w:World)(h:Src w g a n cap):
 Calls Tryz.prog 17 #[.pointer (some ⟨g,0,none⟩)] w fun e w'=>∃ t:Nat,e=.returned (.int .i64 (t:Int))∧t<65536∧Src w' g a n cap∧w.grownBy w' (some g):=by
 go_enter Tryz.func17,Tryz.ntmps17;go_wp2_with fail
 refine(aW g a n cap 8 _ h (by decide)).mono ?_;rintro e w1 ⟨r,rfl,GU,uG,oG,mD⟩;have wR:=uG (by decide);clear uG;have hr:r=0∨r=1∨r=2∨r=3∨r=4∨r=5∨r=6∨r=7:=by omega
 rcases hr with rfl|rfl|rfl|rfl|rfl|rfl|rfl|rfl
 ·go_wp2;go_ret;exact⟨255,rfl,by decide,oG,mD⟩
 ·go_wp2;go_ret;exact⟨5,rfl,by decide,oG,mD⟩
 ·go_wp2;go_ret;exact⟨1,rfl,by decide,oG,mD⟩
 ·go_wp2;go_ret;exact⟨1,rfl,by decide,oG,mD⟩
 ·go_wp2;go_ret;exact⟨16,rfl,by decide,oG,mD⟩
 all_goals
  go_wp2_with fail
  refine(Pk g a n cap _ oG).mono ?_;rintro e w2 ⟨t,rfl,ht,oU,mM⟩;go_wp2;go_ret;exact⟨t,rfl,(M0 ht).2,oU,aS mD mM⟩
