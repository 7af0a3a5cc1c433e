import Derived.Test.YthdpacepbbcocaaGreatJStR
import Derived.Test.YthdpacepbbcocaaGreatJRrC
import Derived.Laws.CopyOwn
set_option linter.unusedVariables false
set_option maxRecDepth 100000
set_option maxHeartbeats 1600000
namespace Go.Proofs.YthdpacepbbcocaaGreat
open Go.RowKit
theorem Mj(n:Int)(h: -9223372036854775808<=n)(h2:n<9223372036854775808):IntKind.i64.wrap n=n:=by
 by_cases h0:0<=n
 ·exact Go.wrap_small n h0 h2
 have e:n % 2 ^ 64=n+18446744073709551616:=by omega
 simp only [IntKind.wrap,IntKind.bits,IntKind.signed,e];rw [if_pos]
 ·omega
 simp
 omega
theorem aFq(d:Int):bits .and .i64 d 4294967295=d % 4294967296:=by
 show IntKind.i64.wrap ((BitVec.ofInt 64 d&&& BitVec.ofInt 64 4294967295).toNat:Int)=_
 have e2:(BitVec.ofInt 64 4294967295).toNat=2 ^ 32-1:=by decide
 have e1:(BitVec.ofInt 64 d).toNat=(d % 18446744073709551616).toNat:=by rw [BitVec.toNat_ofInt];rfl
 rw [BitVec.toNat_and,e2,Nat.and_two_pow_sub_one_eq_mod,e1];have h:(d % 18446744073709551616).toNat % 2 ^ 32<9223372036854775808:=by omega
 rw [Km _ h];omega
abbrev nV(a:Int):Bool:=decide (0<=a)&&decide (a<=4294967295)
def rJ(a b:Int):Bool:=nV a&&nV b&&(decide (1<=(b-a) % 4294967296)&&decide ((b-a) % 4294967296<=2147483647))
def PK(a:Int):Int:=if nV a=true then(if a=4294967295 then 1 else a+1) else 0
theorem KE(a b:Int)(w:World):Calls Tryz.prog 43 #[.int .i64 a,.int .i64 b] w fun e w'=>e=.returned (.bool (rJ a b))∧w'=w:=by
 have KW:∀ W:World,Calls Tryz.prog 85 #[.int .i64 a,.int .i64 4294967295] W fun e w'=>e=.returned (.bool (nV a))∧w'=W:=fun W=>BF a 4294967295 W
 have UA:∀ W:World,Calls Tryz.prog 85 #[.int .i64 b,.int .i64 4294967295] W fun e w'=>e=.returned (.bool (nV b))∧w'=W:=fun W=>BF b 4294967295 W
 by_cases ha:nV a=true
 ·by_cases hb:nV b=true
  ·obtain⟨x1,x2⟩:0<=a∧a<=4294967295:=by simpa [nV] using ha
   obtain⟨x3,x4⟩:0<=b∧b<=4294967295:=by simpa [nV] using hb
   have hs:IntKind.i64.wrap (b-a)=b-a:=Mj _ (by omega) (by omega);have oI:IntKind.i64.wrap (b-a+4294967296)=b-a+4294967296:=Go.wrap_small _ (by omega) (by omega);have hn:=aFq (b-a);have hr:(b-a+4294967296).tmod 4294967296=(b-a) % 4294967296:=by rw [Int.tmod_eq_emod_of_nonneg (by omega)];omega
   have uR:IntKind.i64.wrap ((b-a) % 4294967296)=(b-a) % 4294967296:=Go.wrap_small _ (by omega) (by omega);have hS:rJ a b=(decide (1<=(b-a) % 4294967296)&&decide ((b-a) % 4294967296<=2147483647)):=by simp [rJ,ha,hb]
   rw [hS];rw [ha] at KW;rw [hb] at UA;clear hS ha hb
   by_cases h1:1<=(b-a) % 4294967296
   ·simp only [h1,decide_true,Bool.true_and];go_enter Tryz.func43,Tryz.ntmps43;go_wp2_with (go_at_call 85;first|(with_reducible refine(KW _).mono ?_;rintro e wf ⟨rfl,hw⟩;obtain rfl:=hw.symm;clear hw)|(with_reducible refine(UA _).mono ?_;rintro e wf ⟨rfl,hw⟩;obtain rfl:=hw.symm;clear hw))
    go_ret;exact⟨rfl,rfl⟩
   simp only [h1,decide_false,Bool.false_and];go_enter Tryz.func43,Tryz.ntmps43;go_wp2_with (go_at_call 85;first|(with_reducible refine(KW _).mono ?_;rintro e wf ⟨rfl,hw⟩;obtain rfl:=hw.symm;clear hw)|(with_reducible refine(UA _).mono ?_;rintro e wf ⟨rfl,hw⟩;obtain rfl:=hw.symm;clear hw))
   go_ret;exact⟨rfl,rfl⟩
  have JD:nV b=false:=by simpa using hb
  have hS:rJ a b=false:=by simp [rJ,JD]
  rw [hS];rw [ha] at KW;rw [JD] at UA;clear hS ha hb JD;go_enter Tryz.func43,Tryz.ntmps43;go_wp2_with (go_at_call 85;first|(with_reducible refine(KW _).mono ?_;rintro e wf ⟨rfl,hw⟩;obtain rfl:=hw.symm;clear hw)|(with_reducible refine(UA _).mono ?_;rintro e wf ⟨rfl,hw⟩;obtain rfl:=hw.symm;clear hw))
  go_ret;exact⟨rfl,rfl⟩
 have Sl:nV a=false:=by simpa using ha
 have hS:rJ a b=false:=by simp [rJ,Sl]
 rw [hS];rw [Sl] at KW;clear hS ha Sl;go_enter Tryz.func43,Tryz.ntmps43;go_wp2_with (go_at_call 85;first|(with_reducible refine(KW _).mono ?_;rintro e wf ⟨rfl,hw⟩;obtain rfl:=hw.symm;clear hw)|(with_reducible refine(UA _).mono ?_;rintro e wf ⟨rfl,hw⟩;obtain rfl:=hw.symm;clear hw))
 go_ret;exact⟨rfl,rfl⟩
theorem lU(a b:Int)(w:World):Calls Tryz.prog 16 #[.int .i64 a,.int .i64 b] w fun e w'=>e=.returned (.bool (rJ a b))∧w'=w:=by
 have KW:∀ W:World,Calls Tryz.prog 34 #[.int .i64 a,.int .i64 4294967295] W fun e w'=>e=.returned (.bool (nV a))∧w'=W:=fun W=>GK a 4294967295 W
 have UA:∀ W:World,Calls Tryz.prog 34 #[.int .i64 b,.int .i64 4294967295] W fun e w'=>e=.returned (.bool (nV b))∧w'=W:=fun W=>GK b 4294967295 W
 by_cases ha:nV a=true
 ·by_cases hb:nV b=true
  ·obtain⟨x1,x2⟩:0<=a∧a<=4294967295:=by simpa [nV] using ha
   obtain⟨x3,x4⟩:0<=b∧b<=4294967295:=by simpa [nV] using hb
   have hs:IntKind.i64.wrap (b-a)=b-a:=Mj _ (by omega) (by omega);have oI:IntKind.i64.wrap (b-a+4294967296)=b-a+4294967296:=Go.wrap_small _ (by omega) (by omega);have hn:=aFq (b-a);have hr:(b-a+4294967296).tmod 4294967296=(b-a) % 4294967296:=by rw [Int.tmod_eq_emod_of_nonneg (by omega)];omega
   have uR:IntKind.i64.wrap ((b-a) % 4294967296)=(b-a) % 4294967296:=Go.wrap_small _ (by omega) (by omega);have hS:rJ a b=(decide (1<=(b-a) % 4294967296)&&decide ((b-a) % 4294967296<=2147483647)):=by simp [rJ,ha,hb]
   rw [hS];rw [ha] at KW;rw [hb] at UA;clear hS ha hb
   by_cases h1:1<=(b-a) % 4294967296
   ·simp only [h1,decide_true,Bool.true_and];go_enter Tryz.func16,Tryz.ntmps16;go_wp2_with (go_at_call 34;first|(with_reducible refine(KW _).mono ?_;rintro e wf ⟨rfl,hw⟩;obtain rfl:=hw.symm;clear hw)|(with_reducible refine(UA _).mono ?_;rintro e wf ⟨rfl,hw⟩;obtain rfl:=hw.symm;clear hw))
    go_ret;exact⟨rfl,rfl⟩
   simp only [h1,decide_false,Bool.false_and];go_enter Tryz.func16,Tryz.ntmps16;go_wp2_with (go_at_call 34;first|(with_reducible refine(KW _).mono ?_;rintro e wf ⟨rfl,hw⟩;obtain rfl:=hw.symm;clear hw)|(with_reducible refine(UA _).mono ?_;rintro e wf ⟨rfl,hw⟩;obtain rfl:=hw.symm;clear hw))
   go_ret;exact⟨rfl,rfl⟩
  have JD:nV b=false:=by simpa using hb
  have hS:rJ a b=false:=by simp [rJ,JD]
  rw [hS];rw [ha] at KW;rw [JD] at UA;clear hS ha hb JD;go_enter Tryz.func16,Tryz.ntmps16;go_wp2_with (go_at_call 34;first|(with_reducible refine(KW _).mono ?_;rintro e wf ⟨rfl,hw⟩;obtain rfl:=hw.symm;clear hw)|(with_reducible refine(UA _).mono ?_;rintro e wf ⟨rfl,hw⟩;obtain rfl:=hw.symm;clear hw))
  go_ret;exact⟨rfl,rfl⟩
 have Sl:nV a=false:=by simpa using ha
 have hS:rJ a b=false:=by simp [rJ,Sl]
 rw [hS];rw [Sl] at KW;clear hS ha Sl;go_enter Tryz.func16,Tryz.ntmps16;go_wp2_with (go_at_call 34;first|(with_reducible refine(KW _).mono ?_;rintro e wf ⟨rfl,hw⟩;obtain rfl:=hw.symm;clear hw)|(with_reducible refine(UA _).mono ?_;rintro e wf ⟨rfl,hw⟩;obtain rfl:=hw.symm;clear hw))
 go_ret;exact⟨rfl,rfl⟩
theorem qM(a:Int)(w:World):Calls Tryz.prog 53 #[.int .i64 a] w fun e w'=>e=.returned (.int .i64 (PK a))∧w'=w:=by
 have KW:∀ W:World,Calls Tryz.prog 34 #[.int .i64 a,.int .i64 4294967295] W fun e w'=>e=.returned (.bool (nV a))∧w'=W:=fun W=>GK a 4294967295 W
 have UA:=KW
 by_cases ha:nV a=true
 ·obtain⟨x1,x2⟩:0<=a∧a<=4294967295:=by simpa [nV] using ha
  rw [ha] at KW
  by_cases h1:a=4294967295
  ·subst h1;have hS:PK 4294967295=1:=by decide
   rw [hS];clear hS ha;go_enter Tryz.func53,Tryz.ntmps53;go_wp2_with (go_at_call 34;first|(with_reducible refine(KW _).mono ?_;rintro e wf ⟨rfl,hw⟩;obtain rfl:=hw.symm;clear hw)|(with_reducible refine(UA _).mono ?_;rintro e wf ⟨rfl,hw⟩;obtain rfl:=hw.symm;clear hw))
   go_ret;exact⟨rfl,rfl⟩
  have hS:PK a=a+1:=by simp [PK,ha,h1]
  have hs:IntKind.i64.wrap (a+1)=a+1:=Go.wrap_small _ (by omega) (by omega);rw [hS];clear hS ha;go_enter Tryz.func53,Tryz.ntmps53;go_wp2_with (go_at_call 34;first|(with_reducible refine(KW _).mono ?_;rintro e wf ⟨rfl,hw⟩;obtain rfl:=hw.symm;clear hw)|(with_reducible refine(UA _).mono ?_;rintro e wf ⟨rfl,hw⟩;obtain rfl:=hw.symm;clear hw))
  go_ret;exact⟨rfl,rfl⟩
 have Sl:nV a=false:=by simpa using ha
 have hS:PK a=0:=by simp [PK,Sl]
 rw [hS];rw [Sl] at KW;clear hS ha Sl;go_enter Tryz.func53,Tryz.ntmps53;go_wp2_with (go_at_call 34;first|(with_reducible refine(KW _).mono ?_;rintro e wf ⟨rfl,hw⟩;obtain rfl:=hw.symm;clear hw)|(with_reducible refine(UA _).mono ?_;rintro e wf ⟨rfl,hw⟩;obtain rfl:=hw.symm;clear hw))
 go_ret;exact⟨rfl,rfl⟩
structure tZ where
 dL:Nat
 hd:Nat
 rv:Value
 ty:Int
 tt:Int
 fi:Nat
 da:List (ByteArray×ByteArray)
structure eZ where
 dL:Nat
 hd:Nat
 rv:Value
 lv:Value
 lab:List ByteArray
 nm:ByteArray
 ss:List tZ
def ptr(b:Nat):Value:=.pointer (some ⟨b,0,none⟩)
def xP(l:List (ByteArray×ByteArray)):List (Value×Value):=l.map fun p=>(.string p.1,.string p.2)
def mQ(l:List tZ):List (Value×Value):=l.map fun s=>(.int .i64 s.ty,ptr s.dL)
def mR(l:List eZ):List (Value×Value):=l.map fun o=>(o.lv,ptr o.dL)
def Cu:Value:=.func (.func 168) #[] #[]
def RA:Value:=.func (.func 164) #[] #[]
def wQ:Value:=.func (.func 133) #[] #[]
def vV(s:tZ):List Nat:=s.dL::s.hd::s.rv.ownBlock.toList
def pO(o:eZ):List Nat:=o.dL::o.hd::(o.rv.ownBlock.toList++o.ss.flatMap vV)
def jP(th:Nat)(rv:Value)(os:List eZ):List Nat:=th::(rv.ownBlock.toList++os.flatMap pO)
structure Ag (w:World) (B:Nat) (s:tZ):Prop where
 node:bG w s.dL #[.int .i64 s.tt,.int .i64 (s.fi:Int),ptr s.hd] 176
 head:bG w s.hd #[Cu,s.rv] 240
 rows:w.ownsRow B 243 2 s.rv (xP s.da).length (eD (xP s.da))
structure BN (w:World) (B:Nat) (o:eZ):Prop where
 node:bG w o.dL #[.string o.nm,o.lv,ptr o.hd] 156
 head:bG w o.hd #[RA,o.rv] 194
 rows:w.ownsRow B 196 2 o.rv (mQ o.ss).length (eD (mQ o.ss))
 sets:∀ s∈o.ss,Ag w B s
structure uU (w:World) (B th:Nat) (rv:Value) (os:List eZ):Prop where
 head:bG w th #[wQ,rv] 187
 rows:w.ownsRow B 189 2 rv (mR os).length (eD (mR os))
 mU:∀ o∈os,BN w B o
 nodup:(jP th rv os).Nodup
theorem kG{w w':World}{b:Nat}{cs:Array Value}{T:TypeId}(h:bG w b cs T)(he:w'.heap[b]? =w.heap[b]?):bG w' b cs T:=he.trans h
theorem zT{w w':World}{B e s n:Nat}{v:Value}{xs:List Value}(h:w.ownsRow B e s v n xs)(he:∀ b∈v.ownBlock.toList,w'.heap[b]? =w.heap[b]?):w'.ownsRow B e s v n xs:=by
 refine⟨h.1,?_⟩
 rcases h.2 with h0|⟨q,cap,cur,rfl,hb,hh,r⟩
 ·exact .inl h0
 exact .inr ⟨q,cap,cur,rfl,hb,(he q (by simp [Value.ownBlock])).trans hh,r⟩
theorem Ag.keep{w w':World}{B:Nat}{s:tZ}(h:Ag w B s)(he:∀ b∈vV s,w'.heap[b]? =w.heap[b]?):Ag w' B s:=
 ⟨kG h.node (he _ (by simp [vV])),kG h.head (he _ (by simp [vV])),zT h.rows (fun b hb=>he b (by simp only [vV,List.mem_cons];exact .inr (.inr hb)))⟩
theorem BN.keep{w w':World}{B:Nat}{o:eZ}(h:BN w B o)(he:∀ b∈pO o,w'.heap[b]? =w.heap[b]?):BN w' B o:=
 ⟨kG h.node (he _ (by simp [pO])),kG h.head (he _ (by simp [pO])),zT h.rows (fun b hb=>he b (by simp only [pO,List.mem_cons,List.mem_append];exact .inr (.inr (.inl hb)))),
  fun s hs=>(h.sets s hs).keep (fun b hb=>he b (by simp only [pO,List.mem_cons,List.mem_append,List.mem_flatMap];exact .inr (.inr (.inr ⟨s,hs,hb⟩))))⟩
theorem uU.keep{w w':World}{B th:Nat}{rv:Value}{os:List eZ}(h:uU w B th rv os)(he:∀ b∈jP th rv os,w'.heap[b]? =w.heap[b]?):uU w' B th rv os:=
 ⟨kG h.head (he _ (by simp [jP])),zT h.rows (fun b hb=>he b (by simp only [jP,List.mem_cons,List.mem_append];exact .inr (.inl hb))),
  fun o ho=>(h.mU o ho).keep (fun b hb=>he b (by simp only [jP,List.mem_cons,List.mem_append,List.mem_flatMap];exact .inr (.inr ⟨o,ho,hb⟩))),h.nodup⟩
theorem uV{w:World}{B e s n:Nat}{v:Value}{xs:List Value}(h:w.ownsRow B e s v n xs):∀ b∈v.ownBlock.toList,b<w.heap.size:=by
 intro b hb
 cases hv:v.ownBlock with
 |none=>rw [hv] at hb;simp at hb
 |some q=>
  rw [hv] at hb;simp at hb;subst hb;exact(h.lt _ hv).2
theorem Ag.lt{w:World}{B:Nat}{s:tZ}(h:Ag w B s):∀ b∈vV s,b<w.heap.size:=by
 intro b hb;simp only [vV,List.mem_cons] at hb
 rcases hb with rfl|rfl|hb
 ·exact bU h.node
 ·exact bU h.head
 exact uV h.rows b hb
theorem BN.lt{w:World}{B:Nat}{o:eZ}(h:BN w B o):∀ b∈pO o,b<w.heap.size:=by
 intro b hb;simp only [pO,List.mem_cons,List.mem_append,List.mem_flatMap] at hb
 rcases hb with rfl|rfl|hb|⟨s,hs,hb⟩
 ·exact bU h.node
 ·exact bU h.head
 ·exact uV h.rows b hb
 exact(h.sets s hs).lt b hb
theorem uU.lt{w:World}{B th:Nat}{rv:Value}{os:List eZ}(h:uU w B th rv os):∀ b∈jP th rv os,b<w.heap.size:=by
 intro b hb;simp only [jP,List.mem_cons,List.mem_append,List.mem_flatMap] at hb
 rcases hb with rfl|hb|⟨o,ho,hb⟩
 ·exact bU h.head
 ·exact uV h.rows b hb
 exact(h.mU o ho).lt b hb
theorem uU.below{w w':World}{B th:Nat}{rv:Value}{os:List eZ}(h:uU w B th rv os)(hb:Below w.heap.size w w'):uU w' B th rv os:=
 h.keep (fun b hm=>hb.block b (h.lt b hm))
structure dM (fp:List Nat) (w w':World):Prop where
 os:w'.os=w.os
 tape:w'.tape=w.tape
 output:w'.output=w.output
 size:w.heap.size<=w'.heap.size
 block:∀ k,k<w.heap.size->k∉fp->w'.heap[k]? =w.heap[k]?
theorem dM.below{fp:List Nat}{w w':World}(h:Below w.heap.size w w'):dM fp w w':=⟨h.os,h.tape,h.output,h.size,fun k hk _=>h.block k hk⟩
theorem dM.trans{fp fp':List Nat}{w w1 w2:World}(h:dM fp w w1)(h2:dM fp' w1 w2)(hs:∀ k∈fp',k∈fp∨w.heap.size<=k):dM fp w w2:=
 ⟨h2.os.trans h.os,h2.tape.trans h.tape,h2.output.trans h.output,iL h.size h2.size,fun k hk hn=>by
  rw [h2.block k (sP hk h.size) (fun hm=>by rcases hs k hm with h1|h1;exact hn h1;omega)]
  exact h.block k hk hn⟩
theorem dM.wide{fp fp':List Nat}{w w':World}(h:dM fp w w')(hs:∀ k∈fp,k∈fp'):dM fp' w w':=⟨h.os,h.tape,h.output,h.size,fun k hk hn=>h.block k hk (fun hm=>hn (hs k hm))⟩
theorem Ah(fn:Fn)(w:World):Calls Tryz.prog 132 #[.func fn #[] #[]] w fun e w'=>e=.returned (ptr w.heap.size)∧w'=w.alloc (.cells #[.func fn #[] #[],.slice none 0 0] 187):=by
 go_enter Tryz.func132,Tryz.ntmps132;go_wp2;go_ret;exact⟨rfl,rfl⟩
theorem Ai(fn:Fn)(w:World):Calls Tryz.prog 163 #[.func fn #[] #[]] w fun e w'=>e=.returned (ptr w.heap.size)∧w'=w.alloc (.cells #[.func fn #[] #[],.slice none 0 0] 194):=by
 go_enter Tryz.func163,Tryz.ntmps163;go_wp2;go_ret;exact⟨rfl,rfl⟩
theorem Aj(fn:Fn)(w:World):Calls Tryz.prog 167 #[.func fn #[] #[]] w fun e w'=>e=.returned (ptr w.heap.size)∧w'=w.alloc (.cells #[.func fn #[] #[],.slice none 0 0] 240):=by
 go_enter Tryz.func167,Tryz.ntmps167;go_wp2;go_ret;exact⟨rfl,rfl⟩
def aO1(own:ByteArray)(lv:Value)(ux:Addr)(W w':World):Prop:=∃ hd ob,ux=⟨ob,0,none⟩∧W.heap.size<=hd∧W.heap.size<=ob∧hd≠ob∧bG w' hd #[RA,.slice none 0 0] 194∧bG w' ob #[.string own,lv,ptr hd] 156
def aO2(tt:Int)(at_:Nat)(ux:Addr)(W w':World):Prop:=∃ hd sb,ux=⟨sb,0,none⟩∧W.heap.size<=hd∧W.heap.size<=sb∧hd≠sb∧bG w' hd #[Cu,.slice none 0 0] 240∧bG w' sb #[.int .i64 tt,.int .i64 (at_:Int),ptr hd] 176
theorem wR{w w':World}(h:Below w.heap.size w w'):w.grownBy w' none:=⟨h.os,h.tape,h.output,h.size,fun k hk _=>h.block k hk⟩
theorem aFr(rb lb:Nat)(own:ByteArray)(r1 r2 r3 r4:Value)(la:Option Addr)(ln lc:Nat)(w:World)(kr:bG w rb #[.string own,r1,r2,r3,r4] 29)(kl:bG w lb #[.slice la ln lc] 116)(hs:own.size<=1000000000):
 Calls Tryz.prog 162 #[ptr rb,ptr lb] w fun e w'=>∃ ux:Addr,e=.returned (.pointer (some ux))∧w.grownBy w' none∧aO1 own (.slice la ln lc) ux w w':=by
 have hnt:=Ai (.func 164) w;have xL:=(aK w.heap.size w).alloc (aN _) (.cells #[.func (.func 164) #[] #[],.slice none 0 0] 194);have kh:=aH w #[.func (.func 164) #[] #[],.slice none 0 0] 194;have xW:=fun W=>zI own W hs
 unfold ptr;go_enter Tryz.func162,Tryz.ntmps162;go_wp2_with fail
 refine hnt.mono ?_;rintro e w1 ⟨rfl,CJ⟩;rw [<- CJ] at xL kh;unfold ptr;have hS:∀ W,Below w1.heap.size w1 W->W.cell? ⟨rb,0,none⟩=some (.string own)∧W.cell? ⟨lb,0,none⟩=some (.slice la ln lc):=fun W hW=>⟨aA (aB (aB kr xL) hW) 0,aA (aB (aB kl xL) hW) 0⟩
 have aO3:w1.heap.size=w.heap.size+1:=by rw [CJ];simp
 clear hnt CJ;go_wp2;refine kR (fun W=>W.cell? ⟨rb,0,none⟩=some (.string own)∧W.cell? ⟨lb,0,none⟩=some (.slice la ln lc)) 1000 (hS _ (aK _ _).drew) fun aO=>?_;refine kB 0 rfl ?_;refine kB 1 rfl ?_;refine kB 3 rfl ?_;refine kB 4 rfl ?_;refine k1 2 rfl fun K hK=>?_
 go_simp;refine(xW _).mono ?_;rintro e w2 ⟨rfl,b2⟩;go_wp2_with fail
 have b12:Below w1.heap.size w1 w2:=Nm.aC (aK _ _).drew b2;refine hK.out _ _ (hS _ b12) fun _=>?_;clear hK K xW;refine kB 5 rfl ?_;refine k1 6 rfl fun K hK=>?_
 go_simp;refine hK.out _ _ (hS _ (b12.alloc b12.size _)) fun _=>?_;clear hK K;refine kB 7 rfl ?_;refine kN ?_;have kh2:=aR (aB kh b12) (.cells #[.string own,.slice la ln lc,.pointer (some ⟨w.heap.size,0,none⟩)] 156);have ko:=aH w2 #[.string own,.slice la ln lc,.pointer (some ⟨w.heap.size,0,none⟩)] 156;have bF:=(Nm.aC xL b12).alloc (Nm.aC xL b12).size (.cells #[.string own,.slice la ln lc,.pointer (some ⟨w.heap.size,0,none⟩)] 156);have wM:=b12.size;have HX:=Nm.aF (aV kh2 (aV ko bF));clear kh2 ko bF b12 b2 hS kh xL kr kl;go_wp2;go_ret;exact⟨⟨w2.heap.size,0,none⟩,rfl,wR HX.out.2.2,w.heap.size,w2.heap.size,rfl,aN _,by omega,by omega,HX.out.1,HX.out.2.1⟩
theorem aFs(rb ab at_:Nat)(tt:Int)(r0 r1 r2 r4:Value)(w:World)(kr:bG w rb #[r0,r1,r2,.int .i64 tt,r4] 29)(ka:bG w ab #[.int .i64 (at_:Int)] 3):
 Calls Tryz.prog 166 #[ptr rb,ptr ab] w fun e w'=>∃ ux:Addr,e=.returned (.pointer (some ux))∧w.grownBy w' none∧aO2 tt at_ ux w w':=by
 have hnt:=fun W=>Aj (.func 168) W
 have hS:∀ W,Below w.heap.size w W->W.cell? ⟨rb,3,none⟩=some (.int .i64 tt)∧W.cell? ⟨ab,0,none⟩=some (.int .i64 (at_:Int)):=fun W hW=>⟨aA (aB kr hW) 3,aA (aB ka hW) 0⟩
 unfold ptr;go_enter Tryz.func166,Tryz.ntmps166;go_wp2;refine kR (fun W=>W.cell? ⟨rb,3,none⟩=some (.int .i64 tt)∧W.cell? ⟨ab,0,none⟩=some (.int .i64 (at_:Int))) 1000 (hS _ (aK _ _).drew) fun aO=>?_;refine kB 0 rfl ?_;refine kB 1 rfl ?_;refine kB 2 rfl ?_;refine k1 3 rfl fun K hK=>?_
 go_simp;refine(hnt _).mono ?_;rintro e w1 ⟨rfl,CJ⟩;have xL:Below w.heap.size w w1:=by rw [CJ];exact(aK w.heap.size w).drew.alloc (aN _) _
 have kh:bG w1 w.heap.size #[.func (.func 168) #[] #[],.slice none 0 0] 240:=by rw [CJ];exact aH w.drew _ _
 have HZ1:Hid (w1.heap.size=w.heap.size+1):=by show _=_;rw [CJ];simp
 clear CJ;unfold ptr;go_wp2_with fail
 refine hK.out _ _ (hS _ xL) fun _=>?_;clear hK K hnt;refine kB 4 rfl ?_;refine k1 5 rfl fun K hK=>?_
 go_simp;refine hK.out _ _ (hS _ (xL.alloc xL.size _)) fun _=>?_;clear hK K;refine kB 6 rfl ?_;refine kN ?_;have kh2:=aR kh (.cells #[.int .i64 tt,.int .i64 (at_:Int),.pointer (some ⟨w.heap.size,0,none⟩)] 176);have ko:=aH w1 #[.int .i64 tt,.int .i64 (at_:Int),.pointer (some ⟨w.heap.size,0,none⟩)] 176;have bF:=xL.alloc xL.size (.cells #[.int .i64 tt,.int .i64 (at_:Int),.pointer (some ⟨w.heap.size,0,none⟩)] 176);have HX:=Nm.aF (aV kh2 (aV ko bF));clear kh2 ko bF hS kh xL kr ka;go_wp2;go_ret;exact⟨⟨w1.heap.size,0,none⟩,rfl,wR HX.out.2.2,w.heap.size,w1.heap.size,rfl,aN _,by have:=HZ1.out;omega,by have:=HZ1.out;omega,HX.out.1,HX.out.2.1⟩
theorem aFt(nb rb:Nat)(b0:Bool)(da:ByteArray)(r0 r1 r2 r3:Value)(w:World)(kn:bG w nb #[.bool b0] 4)(kr:bG w rb #[r0,r1,r2,r3,.string da] 29)(hs:da.size<=1000000000):
 Calls Tryz.prog 171 #[ptr nb,ptr rb] w fun e w'=>∃ ux:ByteArray,e=.returned (.string ux)∧w.grownBy w' (some nb)∧ux=da∧bG w' nb #[.bool true] 4:=by
 have xW:=fun W=>zI da W hs
 have dQ:nb≠rb:=by
  intro e;subst e;rw [bG,kn] at kr;simp only [mP,Obj.cells.injEq] at kr;exact absurd kr.2.1 (by decide)
 have rn:=fun i=>aA kn i
 have fn:=fun i=>aG kn i
 have kn2:=aI kn 0 (.bool true);have JE:=aW (v:=.bool true) (i:=0) kr (Ne.symm dQ);have c2:=fun i=>aA JE i
 have hg:w.grownBy (w.setCell ⟨nb,0,none⟩ (.bool true)) (some nb):=⟨rfl,rfl,rfl,by simp,fun k _ hk=>heap_setCell_other w ⟨nb,0,none⟩ k _ (fun e=>hk (by rw [e]))⟩;unfold ptr;go_enter Tryz.func171,Tryz.ntmps171;go_wp2_with fail
 refine(xW _).mono ?_;rintro e w1 ⟨rfl,b1⟩;have kn3:=aB kn2 b1;have HX:=Nm.aF (aV (aBj hg b1) kn3);clear hg kn3 kn2 JE c2 b1;go_wp2;go_ret;exact⟨da,rfl,HX.out.1,rfl,HX.out.2⟩
theorem Mk(tb g:Nat)(rv:Value)(k d t:ByteArray)(w:World)(kb:bG w tb #[.pointer (some ⟨g,0,none⟩)] 174)(kg:bG w g #[Cu,rv] 240):
 Calls Tryz.prog 203 #[.agg #[.string k,.string d],.string t,.pointer (some ⟨tb,0,none⟩)] w fun e w'=>e=.returned (.int .i64 (Nm.iD k.data.toList t.data.toList))∧Below w.heap.size w w':=by
 have hB:=(aK w.heap.size w).alloc (aN _) (.cells #[.string k,.string d] 243);have rb:=fun i=>aA (aB kb hB) i
 have rg:=fun i=>aA (aB kg hB) i
 have hc:=fun W=>Fp k t W
 unfold Cu at rg;generalize Nm.iD k.data.toList t.data.toList=C at*;go_enter Tryz.func203,Tryz.ntmps203;go_wp2;go_quiet ((go_at_call 168;exact Calls.quiet_of_same (hc _)))
 go_wp2;go_ret;exact⟨rfl,Go.below_drewN hB _⟩
theorem RD(tb g:Nat)(rv pv:Value)(k t:Int)(w:World)(kb:bG w tb #[.pointer (some ⟨g,0,none⟩)] 154)(kg:bG w g #[RA,rv] 194):
 Calls Tryz.prog 191 #[.agg #[.int .i64 k,pv],.int .i64 t,.pointer (some ⟨tb,0,none⟩)] w fun e w'=>e=.returned (.int .i64 (Nm.pK k t))∧Below w.heap.size w w':=by
 have hB:=(aK w.heap.size w).alloc (aN _) (.cells #[.int .i64 k,pv] 196);have rb:=fun i=>aA (aB kb hB) i
 have rg:=fun i=>aA (aB kg hB) i
 have hc:=fun W=>aBm k t W
 unfold RA at rg;generalize Nm.pK k t=C at*;go_enter Tryz.func191,Tryz.ntmps191;go_wp2;go_quiet ((go_at_call 164;exact Calls.quiet_of_same (hc _)))
 go_wp2;go_ret;exact⟨rfl,Go.below_drewN hB _⟩
theorem RF(tb g:Nat)(rv pv kv tv:Value)(ks ts:List ByteArray)(w:World)(kb:bG w tb #[.pointer (some ⟨g,0,none⟩)] 117)(kg:bG w g #[wQ,rv] 187)
 (hk:Nm.dX w kv ks) (ht:Nm.dX w tv ts) (hks:∀ x∈ks,x.size<=1000000000) (nS:ks.length<=1000000000) (htl:ts.length<=1000000000):
 Calls Tryz.prog 196 #[.agg #[kv,pv],tv,.pointer (some ⟨tb,0,none⟩)] w fun e w'=>e=.returned (.int .i64 (Nm.bJ ks ts))∧Below w.heap.size w w':=by
 have hB:=(aK w.heap.size w).alloc (aN _) (.cells #[kv,pv] 189);have rb:=fun i=>aA (aB kb hB) i
 have rg:=fun i=>aA (aB kg hB) i
 have hc:=fun m=>QW kv tv ks ts _ (hk.below (Go.below_drewN hB m)) (ht.below (Go.below_drewN hB m)) hks nS htl
 unfold wQ at rg;obtain⟨ka,kc,rfl,_⟩:=hk;obtain⟨ta,tc,rfl,_⟩:=ht;generalize Nm.bJ ks ts=C at*;go_enter Tryz.func196,Tryz.ntmps196;go_wp2;go_quiet ((go_at_call 133;exact Calls.quiet_of (hc _)))
 go_wp2;go_ret;exact⟨rfl,Go.below_drewN hB _⟩
structure It where
 r:Rr
 fo:ByteArray
 dt:ByteArray
 out:Bool
def DK(x:It):List Value:=[.string x.r.own,.int .i64 x.r.ty,.int .i64 x.r.cl,.int .i64 x.r.tt,.string x.r.da,.string x.fo,.string x.dt,.bool x.out]
def fD(l:List It):List Value:=l.flatMap DK
theorem vW(l:List It)(x:It):fD (l++[x])=fD l++DK x:=by simp [fD]
theorem Ml(l:List It):(fD l).length=l.length*8:=by
 induction l with
 |nil=>rfl
 |cons x l ih=>
  have e:fD (x::l)=DK x++fD l:=by simp [fD]
  rw [e,nG,ih];simp [DK]
  omega
theorem vL:∀ (xs:List It) (k j:Nat) (x:It),xs[k]? =some x->j<8->(fD xs)[k*8+j]? =(DK x)[j]? :=by
 intro xs
 induction xs with
 |nil=>intro k j x h;simp at h
 |cons y xs ih=>
  intro k j x h hj;have e:fD (y::xs)=DK y++fD xs:=by simp [fD]
  have hl:(DK y).length=8:=rfl
  cases k with
  |zero=>
   simp at h;subst h
   rw [e,Nat.zero_mul,Nat.zero_add,List.getElem?_append_left (by omega)]
  |succ k=>
   simp at h;rw [e,List.getElem?_append_right (by omega),hl,show(k+1)*8+j-8=k*8+j by omega];exact ih k j x h hj
def fH(l:List It)(fo:ByteArray)(t:Int):Bool:=l.any fun x=> !x.out&&decide (x.fo=fo)&&decide (x.r.ty=t)
def bL(p:Nat->It->Bool)(l:List It):Option Nat:=(List.range l.length).find? fun i=>match l[i]? with
 |some x=>p i x
 |none=>false
theorem mM{p:Nat->It->Bool}{l:List It}{k:Nat}{x:It}(lT:∀ i,i<k->∀ y,l[i]? =some y->p i y=false)(hk:l[k]? =some x)(hp:p k x=true):bL p l=some k:=by
 have bV:=(dK hk).1;rw [bL,List.find?_eq_some_iff_getElem];refine⟨by rw [hk];exact hp,k,by simpa using bV,by simp,fun j hj=>?_⟩;have LU:j<l.length:=by omega
 simp only [List.getElem_range];rw [bY LU];simp [lT j hj _ (bY LU)]
theorem lI{p:Nat->It->Bool}{l:List It}(lT:∀ i,i<l.length->∀ y,l[i]? =some y->p i y=false):bL p l=none:=by
 rw [bL,List.find?_eq_none];intro i hi;simp at hi;rw [bY hi];simp [lT i hi _ (bY hi)]
def yF(s:ByteArray):Bool:=decide (1<s.size)&&decide (s.extract 0 2=⟨#[1,42]⟩)
def fM(l:List It)(fo:ByteArray):Int×Int:=
 match bL (fun i x=> !x.out&&decide (x.r.ty=6)&&(decide (x.fo≠fo)||fH (l.take i) fo 6)) l with
 |some i=>(20,i)
 |none=>if !fH l fo 6 then(20,-1) else if !fH l fo 2 then(21,-1) else
  match bL (fun _ x=> !x.out&&yF x.fo&&(decide (x.r.ty=2)||decide (x.r.ty=39))) l with
  |some i=>(26,i)
  |none=>match bL (fun i x=> !x.out&&(decide (x.r.ty=5)||decide (x.r.ty=39))&&fH (l.take i) x.fo x.r.ty) l with
   |some i=>(23,i)
   |none=>match bL (fun _ x=> !x.out&&decide (x.r.ty≠5)&&decide (x.r.ty≠47)&&fH l x.fo 5) l with
    |some i=>(23,i)
    |none=>match bL (fun _ x=> !x.out&&l.any fun y=> !y.out&&decide (y.r.ty=39)&&decide (y.fo≠x.fo)&&fT x.fo y.fo) l with
     |some i=>(25,i)
     |none=>(0,0)
def spl(cs:Array Value):Nat->List Value->Array Value
 |_,[]=>cs
 |o,v::r=>spl (cs.setIfInBounds o v) (o+1) r
