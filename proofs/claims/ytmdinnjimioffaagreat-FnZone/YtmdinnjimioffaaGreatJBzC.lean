import Derived.Test.YtmdinnjimioffaaGreatJTrH
import Derived.LaidEqlPtr
import Derived.Test.YtmdinnjimioffaaGreatJZbG
import Derived.Test.YtmdinnjimioffaaGreatJTrD
import Derived.Test.YtmdinnjimioffaaGreatJSameM
import Derived.Test.YtmdinnjimioffaaGreatJTrP
import Derived.Test.YtmdinnjimioffaaGreatJTrG
import Derived.Test.YtmdinnjimioffaaGreatJCmpM
import Derived.Test.YtmdinnjimioffaaGreatJTrM
import Derived.RangeFuncNested
namespace Go.Proofs.YtmdinnjimioffaaGreat
open Go.RowKit
set_option linter.unusedVariables false
theorem infoOwS:(Tryz.prog.info? 108).map (·.size)=some 3:=by kernel_rfl
theorem eqlOw_same(t:Nat)(w:World):(binOp .eql 103 (.pointer (some ⟨t,0,none⟩)) (.pointer (some ⟨t,0,none⟩))).run Tryz.prog w=.ok (.bool true) w:=by
 obtain⟨j,hj,_⟩:=Option.map_eq_some_iff.1 infoOwS;exact run_eql_ptr_same w _ Tryz.underlying103 hj
theorem eqlOw_other{t x:Nat}{w:World}{ca cb:Array Value}{ta tb:TypeId}(h:t≠x)(ha:Blk w t ca ta)(hb:Blk w x cb tb):
 (binOp .eql 103 (.pointer (some ⟨t,0,none⟩)) (.pointer (some ⟨x,0,none⟩))).run Tryz.prog w=.ok (.bool false) w:=by
 obtain⟨j,hj,hs⟩:=Option.map_eq_some_iff.1 infoOwS;exact run_eql_ptr_other w Tryz.underlying103 hj (by omega) (fun e=>h (congrArg Addr.block e)) ha hb
set_option maxRecDepth 100000 in
set_option maxHeartbeats 800000 in
theorem indexOw_any(v:Value)(bs:List Nat)(t:Nat)(w:World)(h:CRow w v bs.length 1 (bs.map ptr))(hbk:∀ b,b=t∨b∈bs->∃ cs T,Blk w b cs T):
 Calls Tryz.prog 126 #[v,.pointer (some ⟨t,0,none⟩)] w fun e w'=>Below w.heap.size w w'∧((t∉bs∧e=.returned (.int .i64 (-1)))∨(t∈bs∧∃ k:Nat,e=.returned (.int .i64 k))):=by
 obtain⟨_,a,cap,rfl,hcap,hmx,hc⟩:=h;unfold maxLen at hmx;go_enter Tryz.func126,Tryz.ntmps126;go_wp2
 go_loopw [8] (fun i wr=>∃ k:Nat,k<=bs.length∧i=.int .i64 k∧t∉bs.take k∧Below w.heap.size w wr) (fun i _=>bs.length-(intOf i).toNat)
 case atStart=>exact⟨0,Nat.zero_le _,rfl,by simp,Below.refl _ _⟩
 case round=>
  obtain⟨k,hk,rfl,hno,hbel⟩:=hrel;have HR:=Nm.hide (And.intro hno hbel)
  by_cases hlt:k<bs.length
  ·obtain⟨x,hx⟩:∃ x,bs[k]? =some x:=⟨_,List.getElem?_eq_getElem hlt⟩;obtain⟨bb,off,rfl,hcell⟩:=hc (by omega);have hcx:=hcell k (.pointer (some ⟨x,0,none⟩)) (by simp [ptr,hx]);have hcr:wr.cell? ⟨bb,off+k,none⟩=some (.pointer (some ⟨x,0,none⟩)):=(hbel.cell (World.block_lt_of_cell? w _ hcx)).trans hcx;have HX:=Nm.hide hx;have i1:(0:Int)<=(k:Int):=by omega
   have i2:(k:Int)<(bs.length:Int):=by omega
   obtain⟨c1,T1,k1⟩:=hbk t (.inl rfl);obtain⟨c2,T2,k2⟩:=hbk x (.inr (List.mem_of_getElem? hx));have K1:=Nm.hide (And.intro (blk_below k1 hbel) (blk_below k2 hbel));clear hc hcell hcx hx hno hbel k1 k2
   by_cases he:t=x
   ·subst he;have hq:=eqlOw_same t wr;clear hbk;go_wp2;go_ret;exact⟨HR.out.2,.inr ⟨List.mem_of_getElem? HX.out,k,rfl⟩⟩
   ·have hq:=eqlOw_other he K1.out.1 K1.out.2;clear hbk;go_wp2;go_roundw
    case rel=>
     refine⟨k+1,by omega,by go_num,?_,HR.out.2⟩;obtain⟨hk',e⟩:=List.getElem?_eq_some_iff.1 HX.out;rw [List.take_succ_eq_append_getElem hk',e];simp only [List.mem_append,List.mem_singleton,not_or];exact⟨HR.out.1,he⟩
    case measure=>simp [intOf];omega
  ·have hke:k=bs.length:=by omega
   subst hke;clear hc hno hbel;go_wp2;go_ret;have:=HR.out.1;rw [List.take_length] at this;exact⟨HR.out.2,.inl ⟨this,rfl⟩⟩
set_option maxRecDepth 100000 in
set_option maxHeartbeats 800000 in
theorem containsOw_any(v:Value)(bs:List Nat)(t:Nat)(w:World)(h:CRow w v bs.length 1 (bs.map ptr))(hbk:∀ b,b=t∨b∈bs->∃ cs T,Blk w b cs T):
 Calls Tryz.prog 97 #[v,.pointer (some ⟨t,0,none⟩)] w fun e w'=>e=.returned (.bool (decide (t∈bs)))∧Below w.heap.size w w':=by
 have hi:=indexOw_any v bs t w h hbk;obtain⟨_,a,cap,rfl,hcap,hmx,hc⟩:=h;clear hc;go_enter Tryz.func97,Tryz.ntmps97;go_wp2_with fail
 refine hi.mono ?_;rintro e w1 ⟨b1,⟨hb,rfl⟩|⟨hb,k,rfl⟩⟩
 ·have HB:=Nm.hide hb;clear hb;go_wp2;go_ret;rw [decide_eq_false HB.out];exact⟨rfl,b1⟩
 ·have HB:=Nm.hide hb;clear hb;have hk:(0:Int)<=(k:Int):=by omega
  go_wp2;go_ret;rw [decide_eq_true HB.out];exact⟨rfl,b1⟩
def wildL:List ByteArray->Bool
 |[]=>false
 |x::_=>x.toList==[42]
set_option maxRecDepth 100000 in
set_option maxHeartbeats 800000 in
theorem isWild_any(v:Value)(ls:List ByteArray)(w:World)(h:Nm.SRow w v ls):
 Calls Tryz.prog 91 #[v] w fun e w'=>e=.returned (.bool (wildL ls))∧Below w.heap.size w w':=by
 obtain⟨a,cap,rfl,h1,h2,h3,h4⟩:=h;unfold maxLen at h2
 cases ls with
 |nil=>
  clear h3 h4;go_enter Tryz.func91,Tryz.ntmps91;go_wp2;go_ret
  exact⟨rfl,Below.refl _ _⟩
 |cons x ls=>
  obtain⟨b,off,rfl,hc⟩:=h4 (by simp);have c0:=hc 0 x rfl;simp only [Nat.add_zero] at c0;generalize hn:(x::ls).length=N at*;have n1:(0:Int)<(N:Int):=by simp at hn;omega
  have HN:=Nm.hide hn;clear hc h3 h4 hn;go_enter Tryz.func91,Tryz.ntmps91;go_wp2;go_ret;exact⟨rfl,Below.refl _ _⟩
def First{α:Type}(P:α->Prop)(l:List α)(i:Nat)(x:α):Prop:=l[i]? =some x∧P x∧∀ (j:Nat) (y:α),j<i->l[j]? =some y->¬P y
theorem First.lt{α:Type}{P:α->Prop}{l:List α}{i:Nat}{x:α}(h:First P l i x):i<l.length:=(List.getElem?_eq_some_iff.1 h.1).1
theorem First.snoc{α:Type}{P:α->Prop}{l:List α}{i:Nat}{x:α}(h:First P l i x)(y:α):First P (l++[y]) i x:=by
 have hi:=h.lt;refine⟨by rw [List.getElem?_append_left hi];exact h.1,h.2.1,fun j z hj hz=>?_⟩;rw [List.getElem?_append_left (by omega)] at hz;exact h.2.2 j z hj hz
theorem First.new{α:Type}{P:α->Prop}{l:List α}{x:α}(hno:∀ y∈l,¬P y)(hx:P x):First P (l++[x]) l.length x:=
 ⟨by simp,hx,fun j y hj hy=>by rw [List.getElem?_append_left hj] at hy;exact hno y (List.mem_of_getElem? hy)⟩
theorem First.congr{α:Type}{P Q:α->Prop}{l:List α}{i:Nat}{x:α}(h:First P l i x)(e:∀ y,P y↔Q y):First Q l i x:=
 ⟨h.1,(e x).1 h.2.1,fun j y hj hy hq=>h.2.2 j y hj hy ((e y).2 hq)⟩
theorem First.mem{α:Type}{P:α->Prop}{l:List α}{i:Nat}{x:α}(h:First P l i x):x∈l:=List.mem_of_getElem? h.1
theorem First.ex{α:Type}{P:α->Prop}:∀ {l:List α},(∃ x∈l,P x)->∃ i x,First P l i x:=by
 intro l
 induction l with
 |nil=>rintro⟨x,hx,_⟩;cases hx
 |cons y l ih=>
  rintro⟨x,hx,hp⟩
  by_cases hy:P y
  ·exact⟨0,y,rfl,hy,fun j _ hj=>by omega⟩
  ·have hx':x∈l:=by
    rcases List.mem_cons.1 hx with rfl|h
    ·exact absurd hp hy
    ·exact h
   obtain⟨i,z,h1,h2,h3⟩:=ih ⟨x,hx',hp⟩;refine⟨i+1,z,by simpa using h1,h2,fun j u hj hu=>?_⟩
   cases j with
   |zero=>simp at hu;subst hu;exact hy
   |succ j=>exact h3 j u (by omega) (by simpa using hu)
theorem First.uniq{α:Type}{P:α->Prop}{l:List α}{i j:Nat}{x y:α}(h:First P l i x)(h':First P l j y):i=j∧x=y:=by
 have e:i=j:=by
  rcases Nat.lt_trichotomy i j with h1|h1|h1
  ·exact absurd h.2.1 (h'.2.2 i x h1 h.1)
  ·exact h1
  ·exact absurd h'.2.1 (h.2.2 j y h1 h'.1)
 subst e;have:=h.1.symm.trans h'.1;exact⟨rfl,Option.some.inj this⟩
theorem First.find{α:Type}{P:α->Prop}{l:List α}{i:Nat}{x:α}(h:First P l i x)(p:α->Bool)(e:∀ y∈l,p y=true↔P y):l.find? p=some x:=by
 rw [List.find?_eq_some_iff_getElem];have hi:=h.lt;refine⟨(e x h.mem).2 h.2.1,i,hi,(List.getElem?_eq_some_iff.1 h.1).2,fun j hj=>?_⟩;have hj':l[j]? =some l[j]:=List.getElem?_eq_getElem (by omega);have:=h.2.2 j _ hj hj'
 cases hp:p l[j] with
 |false=>rfl
 |true=>exact absurd ((e _ (List.mem_of_getElem? hj')).1 hp) this
theorem place_split{α:Type}{f:α->Int}{R:α->α->Prop}:∀ {l:List α},l.Pairwise R->(∀ a b,R a b->f b<=0->f a<0)->
 (isIn f l=false∧∃ A C,l=A++C∧posOf f l=A.length∧(∀ a∈A,f a<0)∧∀ c∈C,0<f c)∨
 (isIn f l=true∧∃ A o C,l=A++o::C∧posOf f l=A.length∧f o=0∧(∀ a∈A,f a<0)∧∀ c∈C,0<f c):=by
 intro l
 induction l with
 |nil=>intro _ _;exact .inl ⟨rfl,[],[],rfl,rfl,by simp,by simp⟩
 |cons x l ih=>
  intro hp hR;obtain⟨hx,hl⟩:=List.pairwise_cons.1 hp
  by_cases h1:f x<0
  ·have hpo:posOf f (x::l)=posOf f l+1:=by simp [posOf,h1]
   have hin:isIn f (x::l)=isIn f l:=by
    rw [isIn,isIn,hpo];congr 1
    ·simp
   rw [hin,hpo]
   rcases ih hl hR with⟨hi,A,C,e,hA,ha,hc⟩|⟨hi,A,o,C,e,hA,h0,ha,hc⟩
   ·refine .inl ⟨hi,x::A,C,by rw [e];rfl,by rw [hA];rfl,fun a hm=>?_,hc⟩
    rcases List.mem_cons.1 hm with rfl|hm
    ·exact h1
    ·exact ha a hm
   ·refine .inr ⟨hi,x::A,o,C,by rw [e];rfl,by rw [hA];rfl,h0,fun a hm=>?_,hc⟩
    rcases List.mem_cons.1 hm with rfl|hm
    ·exact h1
    ·exact ha a hm
  ·have hpo:posOf f (x::l)=0:=by simp [posOf,h1]
   have hC:∀ c∈l,0<f c:=fun c hc=>by
    rcases Int.lt_or_le 0 (f c) with h|h
    ·exact h
    ·exact absurd (hR x c (hx c hc) h) h1
   have hin:isIn f (x::l)=decide (f x=0):=by
    rw [isIn,hpo];simp [cfOf]
   by_cases h0:f x=0
   ·exact .inr ⟨by rw [hin,decide_eq_true h0],[],x,l,rfl,hpo,h0,by simp,hC⟩
   ·refine .inl ⟨by rw [hin,decide_eq_false h0],[],x::l,rfl,hpo,by simp,fun c hc=>?_⟩
    rcases List.mem_cons.1 hc with rfl|hc
    ·omega
    ·exact hC c hc
theorem ins_len{α:Type}(A C:List α)(x:α):insAt A.length x (A++C)=A++x::C:=by simp [insAt]
theorem set_len{α:Type}(A C:List α)(o x:α):(A++o::C).set A.length x=A++x::C:=by
 rw [List.set_append_right _ _ (Nat.le_refl _)];simp
theorem cmpLs_lt_le{a b c:List ByteArray}(h1:Nm.cmpLs a b<0)(h2:Nm.cmpLs b c<=0):Nm.cmpLs a c<0:=by
 have h3:=cmpLs_trans (a:=a) (b:=b) (c:=c) (by omega) h2
 rcases Int.lt_or_eq_of_le h3 with h|h
 ·exact h
 ·exfalso
  have h4:=cmpLs_anti a c;have h5:=cmpLs_trans (a:=b) (b:=c) (c:=a) h2 (by rw [h4];omega);have h6:=cmpLs_anti a b;omega
theorem cmpLs_eq_left{a b c:List ByteArray}(h:Nm.cmpLs a b=0):Nm.cmpLs a c=Nm.cmpLs b c:=by
 have hr1:=cmpLs_range a c;have hr2:=cmpLs_range b c;have h':Nm.cmpLs b a=0:=by rw [cmpLs_anti a b];omega
 have k1:=fun(x:Nm.cmpLs b c<=0)=>cmpLs_trans (a:=a) (b:=b) (c:=c) (by omega) x
 have k2:=fun(x:Nm.cmpLs a c<=0)=>cmpLs_trans (a:=b) (b:=a) (c:=c) (by omega) x
 have k3:=fun(x:0<=Nm.cmpLs b c)=>cmpLs_trans' (a:=a) (b:=b) (c:=c) (by omega) x
 have k4:=fun(x:0<=Nm.cmpLs a c)=>cmpLs_trans' (a:=b) (b:=a) (c:=c) (by omega) x
 by_cases z1:Nm.cmpLs b c<=0<;>by_cases z2:0<=Nm.cmpLs b c<;>by_cases z3:Nm.cmpLs a c<=0<;>by_cases z4:0<=Nm.cmpLs a c<;>first|omega|(have:=k1 z1;omega)|(have:=k2 z3;omega)|(have:=k3 z2;omega)|(have:=k4 z4;omega)
theorem cmpLs_eq_right{a b c:List ByteArray}(h:Nm.cmpLs a b=0):Nm.cmpLs c a=Nm.cmpLs c b:=by
 rw [cmpLs_anti a c,cmpLs_anti b c,cmpLs_eq_left h]
theorem cmpLs_self(a:List ByteArray):Nm.cmpLs a a=0:=(cmpLs_zero a a).2 rfl
theorem cmpLs_symm{a b:List ByteArray}(h:Nm.cmpLs a b=0):Nm.cmpLs b a=0:=by rw [cmpLs_anti a b];omega
theorem oCmp_mono(lab:List ByteArray)(a b:GOw)(h:Nm.cmpLs a.lab b.lab<0)(hb:oCmp lab b<=0):oCmp lab a<0:=cmpLs_lt_le h hb
theorem sCmp_mono(ty:Int)(a b:GSe)(h:a.ty<b.ty)(hb:sCmp ty b<=0):sCmp ty a<0:=by
 rw [sCmp,cmpI_neg];rw [sCmp] at hb
 rcases Int.lt_trichotomy b.ty ty with h1|h1|h1
 ·omega
 ·omega
 ·rw [Nm.cmpI_gt h1] at hb;omega
theorem ordL_lt_le{a b c:List UInt8}(h1:Nm.ordL a b<0)(h2:Nm.ordL b c<=0):Nm.ordL a c<0:=by
 have h3:=ordL_trans a b c (by omega) h2
 rcases Int.lt_or_eq_of_le h3 with h|h
 ·exact h
 ·exfalso
  have h4:=ordL_anti a c;have h5:=ordL_trans b c a h2 (by rw [h4];omega);have h6:=ordL_anti a b;omega
theorem dCmp_mono(fd:ByteArray)(a b:ByteArray×ByteArray)(h:Nm.ordL a.1.data.toList b.1.data.toList<0)(hb:dCmp fd b<=0):dCmp fd a<0:=ordL_lt_le h hb
theorem dCmp_zero{fd:ByteArray}{p:ByteArray×ByteArray}:dCmp fd p=0↔p.1=fd:=by
 rw [dCmp,ordL_zero];exact⟨fun h=>Nm.ba_ext h,fun h=>by rw [h]⟩
theorem sCmp_zero{ty:Int}{s:GSe}:sCmp ty s=0↔s.ty=ty:=⟨fun h=>cmpI_zero h,fun h=>by rw [sCmp,Nm.cmpI_eq h]⟩
theorem low_low(c:UInt8):Nm.low (Nm.low c)=Nm.low c:=by
 by_cases h:65<=c.toNat∧c.toNat<=90
 ·have:=Nm.low_up h;exact Nm.low_id (by omega)
 ·rw [Nm.low_id h,Nm.low_id h]
theorem small_small(x:ByteArray):Nm.small (Nm.small x)=Nm.small x:=by
 apply Nm.ba_ext;rw [Nm.small_data,Nm.small_data,Nm.smallL,Nm.smallL,List.map_map];apply List.map_congr_left;intro c _;exact low_low c
theorem ordS_small(x y:ByteArray):Nm.ordS (Nm.small x) (Nm.small y)=Nm.ordS x y:=by
 rw [Nm.ordS,Nm.ordS,<- Nm.small_data,<- Nm.small_data,small_small,small_small,Nm.small_data,Nm.small_data]
theorem cmpRev_small:∀ (a b:List ByteArray),Nm.cmpRev (a.map Nm.small) (b.map Nm.small)=Nm.cmpRev a b
 |[],[]=>rfl
 |[],y::b=>rfl
 |x::a,[]=>rfl
 |x::a,y::b=>by
  simp only [List.map_cons,Nm.cmpRev,ordS_small,cmpRev_small a b]
theorem cmpLs_small(a b:List ByteArray):Nm.cmpLs (a.map Nm.small) (b.map Nm.small)=Nm.cmpLs a b:=by
 rw [Nm.cmpLs,<- List.map_reverse,<- List.map_reverse,cmpRev_small,Nm.cmpLs]
theorem underB_small(a b:List ByteArray):underB (a.map Nm.small) (b.map Nm.small)=underB a b:=by
 rw [underB,underB,List.length_map,List.length_map,<- List.map_drop,cmpLs_small]
theorem underB_same{a a' b b':List ByteArray}(h1:Nm.cmpLs a a'=0)(h2:Nm.cmpLs b b'=0):underB a b=underB a' b':=by
 rw [<- underB_small a b,<- underB_small a' b',(cmpLs_zero _ _).1 h1,(cmpLs_zero _ _).1 h2]
theorem len_same{a b:List ByteArray}(h:Nm.cmpLs a b=0):a.length=b.length:=by
 have:=congrArg List.length ((cmpLs_zero _ _).1 h);simpa using this
theorem split_fold{a:ByteArray}{xs:List ByteArray}(h:Nm.split a=some xs):Nm.split (Nm.foldS a)=some (xs.map Nm.small):=by
 rw [Nm.foldS_some h,<- Nm.joinL_small h];have:=Nm.split_size h;exact split_of_join (small_ok (Nm.split_join h).2) (by rw [Nm.wsum_small];omega)
theorem fold_lab{a b:ByteArray}{xs ys:List ByteArray}(ha:Nm.split a=some xs)(hb:Nm.split b=some ys):Nm.foldS a=Nm.foldS b↔Nm.cmpLs xs ys=0:=by
 constructor
 ·intro h;have h1:=split_fold ha;rw [h,split_fold hb] at h1;exact(cmpLs_zero _ _).2 (Option.some.inj h1).symm
 ·intro h;rw [Nm.foldS_some ha,Nm.foldS_some hb,<- Nm.joinL_small ha,<- Nm.joinL_small hb,(cmpLs_zero _ _).1 h]
theorem cmpS_fold{a b:ByteArray}{xs ys:List ByteArray}(ha:Nm.split a=some xs)(hb:Nm.split b=some ys):Nm.cmpS (Nm.foldS a) (Nm.foldS b)=Nm.cmpLs xs ys:=by
 rw [Nm.cmpS,split_fold ha,split_fold hb];exact cmpLs_small _ _
theorem isUnder_fold{a b:ByteArray}{xs ys:List ByteArray}(ha:Nm.split a=some xs)(hb:Nm.split b=some ys):isUnderS (Nm.foldS a) (Nm.foldS b)=underB xs ys:=by
 rw [isUnder_some (split_fold ha) (split_fold hb)];exact underB_small _ _
theorem low_star{c:UInt8}:Nm.low c=42↔c=42:=by
 by_cases h:65<=c.toNat∧c.toNat<=90
 ·have h1:=Nm.low_up h;constructor
  ·intro e;rw [e] at h1;simp at h1;omega
  ·intro e;rw [e] at h;simp at h
 ·rw [Nm.low_id h]
theorem wildL_same{a b:List ByteArray}(h:Nm.cmpLs a b=0):wildL a=wildL b:=by
 have e:=(cmpLs_zero _ _).1 h
 cases a with
 |nil=>
  cases b with
  |nil=>rfl
  |cons y b=>simp at e
 |cons x a=>
  cases b with
  |nil=>simp at e
  |cons y b=>
   simp only [List.map_cons,List.cons.injEq] at e;have e1:=congrArg (fun z:ByteArray=>z.data.toList) e.1;simp only [Nm.small_data,Nm.smallL] at e1;rw [wildL,wildL,ByteArray.toList_eq,ByteArray.toList_eq,Bool.eq_iff_iff];simp only [beq_iff_eq];generalize x.data.toList=X at*;generalize y.data.toList=Y at*
   have key:∀ Z:List UInt8,Z=[42]↔Z.map Nm.low=[42]:=by
    intro Z
    cases Z with
    |nil=>simp
    |cons z Z=>cases Z with
     |nil=>simp [low_star]
     |cons z' Z=>simp
   rw [key X,key Y,e1]
theorem starB_fold{a:ByteArray}{xs:List ByteArray}(h:Nm.split a=some xs):starB (Nm.foldS a)=wildL xs:=by
 have hj:=Nm.split_join h;rw [Nm.foldS_some h,<- Nm.joinL_small h,starB]
 cases xs with
 |nil=>rfl
 |cons x t=>
  have hx:=hj.2 x (List.mem_cons_self)
  have e:Nm.joinL ((x::t).map Nm.small)=UInt8.ofNat x.size::((Nm.small x).data.toList++Nm.joinL (t.map Nm.small)):=by
   simp [Nm.joinL,Nm.preL,Nm.small_size]
  have hs:1<(ByteArray.mk (Nm.joinL ((x::t).map Nm.small)).toArray).size:=by
   show 1<(Nm.joinL ((x::t).map Nm.small)).toArray.size
   rw [List.size_toArray,e];have:(Nm.small x).data.toList.length=x.size:=by rw [Nm.small_data];simp [Nm.smallL]
   simp only [List.length_cons,List.length_append,this];omega
  rw [decide_eq_true hs,Bool.true_and,wildL,Bool.eq_iff_iff,decide_eq_true_eq,beq_iff_eq,ByteArray.toList_eq];have hl:x.data.toList.length=x.size:=by simp
  rw [e,Nm.small_data,Nm.smallL];generalize x.data.toList=X at*
  cases X with
  |nil=>simp at hl;omega
  |cons c X=>
   have h63:x.size<=63:=hx.2;generalize x.size=n at*;constructor
   ·intro h2;have h3:=congrArg (fun z:ByteArray=>z.data.toList) h2;simp at h3;obtain⟨h4,h5⟩:=h3
    have hn:n=1:=by
     have:=congrArg UInt8.toNat h4;simp at this;omega
    subst hn;simp at hl;subst hl;rw [low_star.1 h5]
   ·intro h2;simp at h2;obtain⟨rfl,rfl⟩:=h2;simp at hl;subst hl;have h42:Nm.low 42=42:=low_star.2 rfl;apply Nm.ba_ext;simp [h42]
def labI(x:It):List ByteArray:=(Nm.split x.r.own).getD []
def GoodI(x:It):Prop:=Nm.split x.r.own=some (labI x)∧x.fo=Nm.foldS x.r.own∧x.dt=foldR x.r.ty x.r.da∧x.out=false
def OfO(lab:List ByteArray)(y:It):Prop:=Nm.cmpLs (labI y) lab=0
def OfS(lab:List ByteArray)(ty:Int)(y:It):Prop:=OfO lab y∧y.r.ty=ty
def OfD(lab:List ByteArray)(ty:Int)(fd:ByteArray)(y:It):Prop:=OfS lab ty y∧y.dt=fd
theorem good_fo{x y:It}(hx:GoodI x)(hy:GoodI y):x.fo=y.fo↔Nm.cmpLs (labI x) (labI y)=0:=by
 rw [hx.2.1,hy.2.1];exact fold_lab hx.1 hy.1
structure TInv (l:List It) (os:List GOw):Prop where
 sorted:OwS os∧∀ o∈os,SeS o.ss∧∀ s∈o.ss,DaS s.da
 len:os.length<=l.length∧∀ o∈os,o.ss.length<=l.length∧∀ s∈o.ss,s.da.length<=l.length
 own:∀ o∈os,∃ i x,First (OfO o.lab) l i x∧o.nm=x.r.own∧o.lab=labI x
 set:∀ o∈os,∀ s∈o.ss,∃ x,First (OfS o.lab s.ty) l s.fi x∧s.tt=x.r.tt
 dat:∀ o∈os,∀ s∈o.ss,∀ p∈s.da,∃ i x,First (OfD o.lab s.ty p.1) l i x∧p.2=x.r.da
 cov:∀ x∈l,∃ o∈os,OfO o.lab x∧∃ s∈o.ss,s.ty=x.r.ty∧∃ p∈s.da,p.1=x.dt
theorem TInv.nil:TInv [] []:=⟨⟨List.Pairwise.nil,by simp⟩,by simp,by simp,by simp,by simp,by simp⟩
theorem TInv.trs{l:List It}{os:List GOw}(h:TInv l os)(hl:l.length<=400000):TrS os:=
 ⟨h.sorted.1,fun o ho=>⟨(h.sorted.2 o ho).1,by have:=(h.len.2 o ho).1;omega,fun s hs=>⟨(h.sorted.2 o ho).2 s hs,by have:=(h.len.2 o ho).2 s hs;omega⟩⟩⟩
theorem pair_mid{α:Type}{R:α->α->Prop}{A C:List α}{x:α}(h:(A++C).Pairwise R)(ha:∀ a∈A,R a x)(hc:∀ c∈C,R x c):(A++x::C).Pairwise R:=by
 rw [List.pairwise_append] at h ⊢;refine⟨h.1,List.pairwise_cons.2 ⟨hc,h.2.1⟩,fun a hm b hb=>?_⟩
 rcases List.mem_cons.1 hb with rfl|hb
 ·exact ha a hm
 ·exact h.2.2 a hm b hb
theorem pair_drop{α:Type}{R:α->α->Prop}{A C:List α}{o:α}(h:(A++o::C).Pairwise R):(A++C).Pairwise R:=by
 refine h.sublist ?_;exact List.Sublist.append_left (List.sublist_cons_self o C) A
structure LayP (own:ByteArray) (lv:Value) (lab:List ByteArray) (ty tt:Int) (at_:Nat) (fd da:ByteArray) (os os':List GOw) (o':GOw) (s':GSe) (isNew:Bool):Prop where
 spl:∃ (A C:List GOw) (o1:GOw) (A2 C2:List GSe) (s2:GSe),os'=A++o'::C∧(∀ a∈A,Nm.cmpLs a.lab lab<0)∧(∀ c∈C,0<Nm.cmpLs c.lab lab)∧
  o'.blk=o1.blk∧o'.lab=o1.lab∧o'.nm=o1.nm∧o'.lv=o1.lv∧
  ((os=A++o1::C∧Nm.cmpLs o1.lab lab=0)∨(os=A++C∧o1.lab=lab∧o1.nm=own∧o1.ss=[]∧o1.lv=lv))∧
  o'.ss=A2++s'::C2∧(∀ a∈A2,a.ty<ty)∧(∀ c∈C2,ty<c.ty)∧s'.blk=s2.blk∧s'.ty=ty∧s2.ty=ty∧s'.fi=s2.fi∧s'.tt=s2.tt∧
  (o1.ss=A2++s2::C2∨(o1.ss=A2++C2∧s2.tt=tt∧s2.fi=at_∧s2.da=[]))∧
  ((isNew=false∧s'.da=s2.da∧∃ p∈s2.da,p.1=fd)∨(isNew=true∧∃ A3 C3,s2.da=A3++C3∧s'.da=A3++(fd,da)::C3∧(∀ a∈A3,Nm.ordL a.1.data.toList fd.data.toList<0)∧(∀ c∈C3,0<Nm.ordL c.1.data.toList fd.data.toList)))
theorem layP_of{own:ByteArray}{lv:Value}{lab:List ByteArray}{ty tt:Int}{at_:Nat}{fd da:ByteArray}{os os':List GOw}{ob sb:Nat}{isNew:Bool}(hs:OwS os∧∀ o∈os,SeS o.ss∧∀ s∈o.ss,DaS s.da)(h:LayG own lv lab ty tt at_ fd da os os' ob sb isNew):
 ∃ o' s',LayP own lv lab ty tt at_ fd da os os' o' s' isNew∧o'.blk=ob∧s'.blk=sb:=by
 obtain⟨o1,os1,s2,ss2,rv2,rv3,hO,hS,rfl,rfl,hN,hos⟩:=h
 have hss:SeS o1.ss∧∀ s∈o1.ss,DaS s.da:=by
  rcases hO with⟨_,_,h1,_⟩|⟨_,_,_,_,_,h1⟩
  ·exact hs.2 o1 (List.mem_of_getElem? h1)
  ·rw [h1];exact⟨List.Pairwise.nil,by simp⟩
 have hdd:DaS s2.da:=by
  rcases hS with⟨_,_,h1,_⟩|⟨_,_,_,_,_,h1⟩
  ·exact hss.2 s2 (List.mem_of_getElem? h1)
  ·rw [h1];exact List.Pairwise.nil
 obtain⟨s',hs'⟩:∃ s':GSe,s'={s2 with rv:=rv3,da:=putF (dCmp fd) (fd,da) s2.da}:=⟨_,rfl⟩;rw [<- hs'] at hos
 have pS:∃ (A2 C2:List GSe),ss2.set (posOf (sCmp ty) o1.ss) s'=A2++s'::C2∧(∀ a∈A2,a.ty<ty)∧(∀ c∈C2,ty<c.ty)∧s2.ty=ty∧(o1.ss=A2++s2::C2∨(o1.ss=A2++C2∧s2.tt=tt∧s2.fi=at_∧s2.da=[])):=by
  have gt:∀ {A:List GSe},(∀ c∈A,0<sCmp ty c)->∀ c∈A,ty<c.ty:=fun h c hc=>by
   have:=h c hc;rw [sCmp] at this
   rcases Int.lt_trichotomy c.ty ty with h1|h1|h1
   ·rw [Nm.cmpI_lt h1] at this;omega
   ·rw [Nm.cmpI_eq h1] at this;omega
   ·exact h1
  have lt:∀ {A:List GSe},(∀ c∈A,sCmp ty c<0)->∀ c∈A,c.ty<ty:=fun h c hc=>cmpI_neg.1 (h c hc)
  rcases place_split (f:=sCmp ty) hss.1 (sCmp_mono ty) with⟨hi,A,C,e,hp,ha,hc⟩|⟨hi,A,o,C,e,hp,h0,ha,hc⟩
  ·rcases hS with⟨h1,_⟩|⟨_,h2,h3,h4,h5,h6⟩
   ·rw [hi] at h1;cases h1
   ·refine⟨A,C,?_,lt ha,gt hc,h3,.inr ⟨e,h4,h5,h6⟩⟩;rw [h2,hp,e,ins_len,set_len]
  ·rcases hS with⟨_,h2,h3,h4⟩|⟨h1,_⟩
   ·have e2:s2=o:=by
     rw [hp,e,List.getElem?_append_right (Nat.le_refl _)] at h3;simp at h3;exact h3.symm
    subst e2;refine⟨A,C,?_,lt ha,gt hc,h4,.inl e⟩;rw [h2,hp,e,set_len]
   ·rw [hi] at h1;cases h1
 obtain⟨A2,C2,e2,hA2,hC2,hty,hcase2⟩:=pS;rw [e2] at hos;obtain⟨o',ho'⟩:∃ o':GOw,o'={o1 with rv:=rv2,ss:=A2++s'::C2}:=⟨_,rfl⟩;rw [<- ho'] at hos
 have pD:(isNew=false∧s'.da=s2.da∧∃ p∈s2.da,p.1=fd)∨(isNew=true∧∃ A3 C3,s2.da=A3++C3∧s'.da=A3++(fd,da)::C3∧(∀ a∈A3,Nm.ordL a.1.data.toList fd.data.toList<0)∧(∀ c∈C3,0<Nm.ordL c.1.data.toList fd.data.toList)):=by
  have e3:s'.da=putF (dCmp fd) (fd,da) s2.da:=by rw [hs']
  rcases place_split (f:=dCmp fd) hdd (dCmp_mono fd) with⟨hi,A,C,e,hp,ha,hc⟩|⟨hi,A,o,C,e,hp,h0,ha,hc⟩
  ·refine .inr ⟨by rw [hN,hi];rfl,A,C,e,?_,ha,hc⟩;rw [e3,putF,hi,hp];simp only [Bool.false_eq_true,if_false];rw [e,ins_len]
  ·refine .inl ⟨by rw [hN,hi];rfl,by rw [e3,putF,hi];rfl,o,by rw [e];simp,dCmp_zero.1 h0⟩
 refine⟨o',s',⟨?_⟩,by rw [ho'],by rw [hs']⟩
 rcases place_split (f:=oCmp lab) hs.1 (oCmp_mono lab) with⟨hi,A,C,e,hp,ha,hc⟩|⟨hi,A,o,C,e,hp,h0,ha,hc⟩
 ·rcases hO with⟨h1,_⟩|⟨_,h2,h3,h4,h5,h6⟩
  ·rw [hi] at h1;cases h1
  ·refine⟨A,C,o1,A2,C2,s2,?_,ha,hc,by rw [ho'],by rw [ho'],by rw [ho'],by rw [ho'],.inr ⟨e,h3,h5,h6,h4⟩,by rw [ho'],hA2,hC2,by rw [hs'],by rw [hs'];exact hty,hty,by rw [hs'],by rw [hs'],hcase2,pD⟩;rw [hos,h2,hp,e,ins_len,set_len]
 ·rcases hO with⟨_,h2,h3,h4⟩|⟨h1,_⟩
  ·have e1:o1=o:=by
    rw [hp,e,List.getElem?_append_right (Nat.le_refl _)] at h3;simp at h3;exact h3.symm
   subst e1;refine⟨A,C,o1,A2,C2,s2,?_,ha,hc,by rw [ho'],by rw [ho'],by rw [ho'],by rw [ho'],.inl ⟨e,h4⟩,by rw [ho'],hA2,hC2,by rw [hs'],by rw [hs'];exact hty,hty,by rw [hs'],by rw [hs'],hcase2,pD⟩;rw [hos,h2,hp,e,set_len]
  ·rw [hi] at h1;cases h1
structure LayR (l:List It) (x:It) (lv:Value) (os os':List GOw) (o':GOw) (s':GSe) (isNew:Bool):Prop where
 inv:TInv (l++[x]) os'
 isOwn:o'∈os'∧OfO o'.lab x
 isSet:s'∈o'.ss∧s'.ty=x.r.ty
 nw:isNew=true↔ ∀ y∈l,¬OfD (labI x) x.r.ty x.dt y
 kept:∀ o∈os,∃ q∈os',q.blk=o.blk∧q.lab=o.lab∧q.lv=o.lv∧∀ s∈o.ss,∃ t∈q.ss,t.blk=s.blk∧t.ty=s.ty
 lvs:∀ q∈os',(∃ o∈os,q.lv=o.lv∧q.lab=o.lab)∨(q.lv=lv∧q.lab=labI x)
theorem mem_mid{α:Type}{A C:List α}{x q:α}(h:q∈A++x::C):q=x∨q∈A∨q∈C:=by
 rcases List.mem_append.1 h with h|h
 ·exact .inr (.inl h)
 ·rcases List.mem_cons.1 h with h|h
  ·exact .inl h
  ·exact .inr (.inr h)
theorem lay_r{l:List It}{x:It}{lv:Value}{os os':List GOw}{o':GOw}{s':GSe}{isNew:Bool}(hI:TInv l os)(h:LayP x.r.own lv (labI x) x.r.ty x.r.tt l.length x.dt x.r.da os os' o' s' isNew):LayR l x lv os os' o' s' isNew:=by
 obtain⟨A,C,o1,A2,C2,s2,eos,hA,hC,eb,el,en,ev,hO,ess,hA2,hC2,sb,st,st2,sf,stt,hS,hD⟩:=h.spl
 have olab:Nm.cmpLs o1.lab (labI x)=0:=by
  rcases hO with⟨_,h1⟩|⟨_,h1,_⟩
  ·exact h1
  ·rw [h1];exact cmpLs_self _
 have isO:∀ y,OfO o1.lab y↔OfO (labI x) y:=fun y=>by rw [OfO,OfO,cmpLs_eq_right olab]
 have nz:∀ o,(o∈A∨o∈C)->Nm.cmpLs o.lab (labI x)≠0:=fun o ho=>by
  rcases ho with ho|ho
  ·have:=hA o ho;omega
  ·have:=hC o ho;omega
 have nt:∀ s,(s∈A2∨s∈C2)->s.ty≠x.r.ty:=fun s hs=>by
  rcases hs with hs|hs
  ·have:=hA2 s hs;omega
  ·have:=hC2 s hs;omega
 have acO:∀ o,(o∈A∨o∈C)->o∈os:=fun o ho=>by
  rcases hO with⟨e,_⟩|⟨e,_⟩<;>rw [e]<;>rcases ho with ho|ho<;>simp [ho]
 have acS:∀ s,(s∈A2∨s∈C2)->s∈o1.ss:=fun s hs=>by
  rcases hS with e|⟨e,_⟩<;>rw [e]<;>rcases hs with hs|hs<;>simp [hs]
 have o1os:o1.ss≠[]->o1∈os:=fun hne=>by
  rcases hO with⟨e,_⟩|⟨_,_,_,h1,_⟩
  ·rw [e];simp
  ·exact absurd h1 hne
 have mne:∀ {s:GSe},s∈o1.ss->o1∈os:=fun hs=>o1os (List.ne_nil_of_mem hs)
 have covO:∀ y∈l,OfO (labI x) y->o1∈os∧∃ s∈o1.ss,s.ty=y.r.ty∧∃ p∈s.da,p.1=y.dt:=by
  intro y hy h1;obtain⟨o,ho,h2,s,hs,h3,p,hp,h4⟩:=hI.cov y hy;have h5:Nm.cmpLs o.lab (labI x)=0:=by rw [<- cmpLs_eq_left h2];exact h1
  rcases hO with⟨e,_⟩|⟨e,_⟩
  ·rw [e] at ho
   rcases mem_mid ho with rfl|ho
   ·exact⟨by rw [e];simp,s,hs,h3,p,hp,h4⟩
   ·exact absurd h5 (nz o ho)
  ·rw [e] at ho;exact absurd h5 (nz o (List.mem_append.1 ho))
 have covS:∀ y∈l,OfS (labI x) x.r.ty y->o1.ss=A2++s2::C2∧∃ p∈s2.da,p.1=y.dt:=by
  intro y hy h1;obtain⟨_,s,hs,h3,hp⟩:=covO y hy h1.1;rw [h1.2] at h3
  rcases hS with e|⟨e,_⟩
  ·rw [e] at hs
   rcases mem_mid hs with rfl|hs
   ·exact⟨e,hp⟩
   ·exact absurd h3 (nt s hs)
  ·rw [e] at hs;exact absurd h3 (nt s (List.mem_append.1 hs))
 have covD:∀ y∈l,OfD (labI x) x.r.ty x.dt y->isNew=false:=by
  intro y hy h1;obtain⟨_,p,hp,h3⟩:=covS y hy h1.1;rw [h1.2] at h3;have h0:Nm.ordL p.1.data.toList x.dt.data.toList=0:=dCmp_zero.2 h3
  rcases hD with⟨h4,_⟩|⟨_,A3,C3,e,_,ha,hc⟩
  ·exact h4
  ·rw [e] at hp
   rcases List.mem_append.1 hp with hp|hp
   ·have:=ha p hp;omega
   ·have:=hc p hp;omega
 have s2da:s2.da≠[]->s2∈o1.ss:=fun hne=>by
  rcases hS with e|⟨_,_,_,e⟩
  ·rw [e];simp
  ·exact absurd e hne
 have nw:isNew=true↔ ∀ y∈l,¬OfD (labI x) x.r.ty x.dt y:=by
  constructor
  ·intro h1 y hy h2;rw [covD y hy h2] at h1;cases h1
  ·intro h1
   rcases hD with⟨_,_,p,hp,h3⟩|⟨h2,_⟩
   ·exfalso
    have hs:=s2da (List.ne_nil_of_mem hp);obtain⟨i,y,hy,_⟩:=hI.dat o1 (mne hs) s2 hs p hp;obtain⟨⟨z1,z2⟩,z3⟩:=hy.2.1;exact h1 y hy.mem ⟨⟨(isO y).1 z1,by rw [z2,st2]⟩,by rw [z3,h3]⟩
   ·exact h2
 have sub3:∀ p∈s2.da,p∈s'.da:=fun p hp=>by
  rcases hD with⟨_,e,_⟩|⟨_,A3,C3,e,e',_⟩
  ·rw [e];exact hp
  ·rw [e'];rw [e] at hp
   rcases List.mem_append.1 hp with hp|hp<;>simp [hp]
 have xp:∃ p∈s'.da,p.1=x.dt:=by
  rcases hD with⟨_,e,p,hp,h3⟩|⟨_,A3,C3,e,e',_⟩
  ·exact⟨p,by rw [e];exact hp,h3⟩
  ·exact⟨(x.dt,x.r.da),by rw [e'];simp,rfl⟩
 have o'm:o'∈os':=by rw [eos];simp
 have s'm:s'∈o'.ss:=by rw [ess];simp
 have acO':∀ o,(o∈A∨o∈C)->o∈os':=fun o ho=>by rw [eos];rcases ho with ho|ho<;>simp [ho]
 have acS':∀ s,(s∈A2∨s∈C2)->s∈o'.ss:=fun s hs=>by rw [ess];rcases hs with hs|hs<;>simp [hs]
 have isOwn:OfO o'.lab x:=by rw [OfO,el];exact cmpLs_symm olab
 have o1so:SeS o1.ss∧∀ s∈o1.ss,DaS s.da:=by
  rcases hO with⟨e,_⟩|⟨_,_,_,h1,_⟩
  ·exact hI.sorted.2 o1 (by rw [e];simp)
  ·rw [h1];exact⟨List.Pairwise.nil,by simp⟩
 have s2so:DaS s2.da:=by
  rcases hS with e|⟨_,_,_,e⟩
  ·exact o1so.2 s2 (by rw [e];simp)
  ·rw [e];exact List.Pairwise.nil
 have ow:OwS os':=by
  rw [eos];refine pair_mid ?_ (fun a ha=>?_) (fun c hc=>?_)
  ·rcases hO with⟨e,_⟩|⟨e,_⟩
   ·exact pair_drop (by rw [<- e];exact hI.sorted.1)
   ·rw [<- e];exact hI.sorted.1
  ·rw [el,cmpLs_eq_right olab];exact hA a ha
  ·rw [el,cmpLs_eq_left olab,cmpLs_anti c.lab];have:=hC c hc;omega
 have se:SeS o'.ss:=by
  rw [ess];refine pair_mid ?_ (fun a ha=>by rw [st];exact hA2 a ha) (fun c hc=>by rw [st];exact hC2 c hc)
  rcases hS with e|⟨e,_⟩
  ·exact pair_drop (by rw [<- e];exact o1so.1)
  ·rw [<- e];exact o1so.1
 have da:DaS s'.da:=by
  rcases hD with⟨_,e,_⟩|⟨_,A3,C3,e,e',ha,hc⟩
  ·rw [e];exact s2so
  ·rw [e'];refine pair_mid (by rw [<- e];exact s2so) ha (fun c h1=>?_);rw [ordL_anti c.1.data.toList];have:=hc c h1;simp only
   omega
 have l1:os'.length<=os.length+1:=by
  rw [eos]
  rcases hO with⟨e,_⟩|⟨e,_⟩<;>rw [e]<;>simp<;>omega
 have l2:o'.ss.length<=o1.ss.length+1:=by
  rw [ess]
  rcases hS with e|⟨e,_⟩<;>rw [e]<;>simp<;>omega
 have l3:s'.da.length<=s2.da.length+1:=by
  rcases hD with⟨_,e,_⟩|⟨_,A3,C3,e,e',_⟩
  ·rw [e];omega
  ·rw [e',e];simp;omega
 have l4:o1.ss.length<=l.length∧∀ s∈o1.ss,s.da.length<=l.length:=by
  rcases hO with⟨e,_⟩|⟨_,_,_,h1,_⟩
  ·exact hI.len.2 o1 (by rw [e];simp)
  ·rw [h1];simp
 have l5:s2.da.length<=l.length:=by
  rcases hS with e|⟨_,_,_,e⟩
  ·exact l4.2 s2 (by rw [e];simp)
  ·rw [e];simp
 have hll:(l++[x]).length=l.length+1:=by simp
 refine⟨⟨⟨ow,fun q hq=>?_⟩,⟨by have:=hI.len.1;omega,fun q hq=>?_⟩,fun q hq=>?_,fun q hq s hs=>?_,fun q hq s hs p hp=>?_,fun y hy=>?_⟩,⟨o'm,isOwn⟩,⟨s'm,st⟩,nw,fun o ho=>?_,fun q hq=>?_⟩
 ·rw [eos] at hq
  rcases mem_mid hq with rfl|hq
  ·refine⟨se,fun s hs=>?_⟩;rw [ess] at hs
   rcases mem_mid hs with rfl|hs
   ·exact da
   ·exact o1so.2 s (acS s hs)
  ·exact hI.sorted.2 q (acO q hq)
 ·rw [eos] at hq
  rcases mem_mid hq with rfl|hq
  ·refine⟨by omega,fun s hs=>?_⟩;rw [ess] at hs
   rcases mem_mid hs with rfl|hs
   ·omega
   ·have:=l4.2 s (acS s hs);omega
  ·have h1:=hI.len.2 q (acO q hq);exact⟨by omega,fun s hs=>by have:=h1.2 s hs;omega⟩
 ·rw [eos] at hq
  rcases mem_mid hq with rfl|hq
  ·rcases hO with⟨e,_⟩|⟨e,h1,h2,h3,_⟩
   ·obtain⟨i,y,h1,h2,h3⟩:=hI.own o1 (by rw [e];simp);exact⟨i,y,by rw [el];exact h1.snoc x,by rw [en,h2],by rw [el,h3]⟩
   ·refine⟨l.length,x,First.new (fun y hy h4=>?_) isOwn,by rw [en,h2],by rw [el,h1]⟩;rw [el,isO] at h4;obtain⟨_,s,hs,_⟩:=covO y hy h4;rw [h3] at hs;cases hs
  ·obtain⟨i,y,h1,h2⟩:=hI.own q (acO q hq);exact⟨i,y,h1.snoc x,h2⟩
 ·rw [eos] at hq
  rcases mem_mid hq with rfl|hq
  ·rw [ess] at hs
   rcases mem_mid hs with rfl|hs
   ·rcases hS with e|⟨e,h1,h2,h3⟩
    ·have hm:s2∈o1.ss:=by rw [e];simp
     obtain⟨y,h1,h2⟩:=hI.set o1 (mne hm) s2 hm;exact⟨y,by rw [el,st,sf,<- st2];exact h1.snoc x,by rw [stt,h2]⟩
    ·refine⟨x,?_,by rw [stt,h1]⟩;rw [sf,h2];refine First.new (fun y hy h4=>?_) ⟨isOwn,st.symm⟩;rw [el,st] at h4;have h5:=(covS y hy ⟨(isO y).1 h4.1,h4.2⟩).1;rw [e] at h5;have h6:s2∈A2++C2:=by rw [h5];simp
     exact nt s2 (List.mem_append.1 h6) st2
   ·obtain⟨y,h1,h2⟩:=hI.set o1 (mne (acS s hs)) s (acS s hs);exact⟨y,by rw [el];exact h1.snoc x,h2⟩
  ·obtain⟨y,h1,h2⟩:=hI.set q (acO q hq) s hs;exact⟨y,h1.snoc x,h2⟩
 ·rw [eos] at hq
  rcases mem_mid hq with rfl|hq
  ·rw [ess] at hs
   rcases mem_mid hs with rfl|hs
   ·have hcase:p∈s2.da∨(isNew=true∧p=(x.dt,x.r.da)):=by
     rcases hD with⟨_,e,_⟩|⟨h1,A3,C3,e,e',_⟩
     ·rw [e] at hp;exact .inl hp
     ·rw [e'] at hp
      rcases mem_mid hp with h2|h2
      ·exact .inr ⟨h1,h2⟩
      ·rw [e];exact .inl (List.mem_append.2 h2)
    rcases hcase with hp|⟨h1,rfl⟩
    ·have hm:=s2da (List.ne_nil_of_mem hp);obtain⟨i,y,h1,h2⟩:=hI.dat o1 (mne hm) s2 hm p hp;exact⟨i,y,by rw [el,st,<- st2];exact h1.snoc x,h2⟩
    ·refine⟨l.length,x,First.new (fun y hy h4=>?_) ⟨⟨isOwn,st.symm⟩,rfl⟩,rfl⟩;rw [el,st] at h4;exact nw.1 h1 y hy ⟨⟨(isO y).1 h4.1.1,h4.1.2⟩,h4.2⟩
   ·obtain⟨i,y,h1,h2⟩:=hI.dat o1 (mne (acS s hs)) s (acS s hs) p hp;exact⟨i,y,by rw [el];exact h1.snoc x,h2⟩
  ·obtain⟨i,y,h1,h2⟩:=hI.dat q (acO q hq) s hs p hp;exact⟨i,y,h1.snoc x,h2⟩
 ·rcases List.mem_append.1 hy with hy|hy
  ·obtain⟨o,ho,h2,s,hs,h3,p,hp,h4⟩:=hI.cov y hy
   by_cases hoo:Nm.cmpLs o.lab (labI x)=0
   ·have h5:OfO (labI x) y:=by rw [OfO,cmpLs_eq_left h2];exact hoo
    obtain⟨hm,s,hs,h3,p,hp,h4⟩:=covO y hy h5;refine⟨o',o'm,by rw [el];exact(isO y).2 h5,?_⟩
    rcases hS with e|⟨e,_⟩
    ·rw [e] at hs
     rcases mem_mid hs with rfl|hs
     ·exact⟨s',s'm,by rw [st,<- st2,h3],p,sub3 p hp,h4⟩
     ·exact⟨s,acS' s hs,h3,p,hp,h4⟩
    ·rw [e] at hs;exact⟨s,acS' s (List.mem_append.1 hs),h3,p,hp,h4⟩
   ·have hm:o∈A∨o∈C:=by
     rcases hO with⟨e,_⟩|⟨e,_⟩
     ·rw [e] at ho
      rcases mem_mid ho with rfl|ho
      ·exact absurd olab hoo
      ·exact ho
     ·rw [e] at ho;exact List.mem_append.1 ho
    exact⟨o,acO' o hm,h2,s,hs,h3,p,hp,h4⟩
  ·obtain rfl:=List.mem_singleton.1 hy;obtain⟨p,hp,h1⟩:=xp;exact⟨o',o'm,isOwn,s',s'm,st,p,hp,h1⟩
 ·have hm:o=o1∨o∈A∨o∈C:=by
   rcases hO with⟨e,_⟩|⟨e,_⟩
   ·rw [e] at ho;exact mem_mid ho
   ·rw [e] at ho;exact .inr (List.mem_append.1 ho)
  rcases hm with rfl|hm
  ·refine⟨o',o'm,eb,el,ev,fun s hs=>?_⟩
   have hm2:s=s2∨s∈A2∨s∈C2:=by
    rcases hS with e|⟨e,_⟩
    ·rw [e] at hs;exact mem_mid hs
    ·rw [e] at hs;exact .inr (List.mem_append.1 hs)
   rcases hm2 with rfl|hm2
   ·exact⟨s',s'm,sb,by rw [st,st2]⟩
   ·exact⟨s,acS' s hm2,rfl,rfl⟩
  ·exact⟨o,acO' o hm,rfl,rfl,rfl,fun s hs=>⟨s,hs,rfl,rfl⟩⟩
 ·rw [eos] at hq
  rcases mem_mid hq with rfl|hq
  ·rcases hO with⟨e,_⟩|⟨_,h1,_,_,h2⟩
   ·exact .inl ⟨o1,by rw [e];simp,ev,el⟩
   ·exact .inr ⟨by rw [ev,h2],by rw [el,h1]⟩
  ·exact .inl ⟨q,acO q hq,rfl,rfl⟩
def preR:List ByteArray->List ByteArray->Bool
 |[],_=>true
 |_::_,[]=>false
 |x::a,y::b=>decide (Nm.ordS x y=0)&&preR a b
theorem preR_iff:∀ (a c:List ByteArray),preR a c=(decide (a.length<=c.length)&&decide (Nm.cmpRev (c.take a.length) a=0))
 |[],c=>by simp [preR,Nm.cmpRev]
 |x::a,[]=>by simp [preR]
 |x::a,y::c=>by
  have e:Nm.ordS y x=0↔Nm.ordS x y=0:=by rw [ordS_anti x y];omega
  rw [preR,preR_iff a c];simp only [List.length_cons,List.take_succ_cons,Nm.cmpRev]
  by_cases h:Nm.ordS x y=0
  ·simp [h,e.2 h]
  ·have h':¬Nm.ordS y x=0:=fun z=>h (e.1 z)
   simp [h,h']
theorem under_pre(xs ys:List ByteArray):underB xs ys=preR ys.reverse xs.reverse:=by
 rw [preR_iff,underB,List.length_reverse,List.length_reverse,Nm.cmpLs]
 by_cases h:ys.length<=xs.length
 ·have e:(xs.drop (xs.length-ys.length)).reverse=xs.reverse.take ys.length:=by
   rw [List.take_reverse]
  rw [e]
 ·rw [decide_eq_false h,Bool.false_and,Bool.false_and]
theorem preR_mid:∀ (a b c:List ByteArray),preR a c=true->Nm.cmpRev a b<=0->Nm.cmpRev b c<=0->preR a b=true
 |[],b,c,_,_,_=>by simp [preR]
 |x::a,b,[],h,_,_=>by simp [preR] at h
 |x::a,[],z::c,h,h1,_=>by simp [Nm.cmpRev] at h1
 |x::a,y::b,z::c,h,h1,h2=>by
  simp only [preR,Bool.and_eq_true,decide_eq_true_eq] at h ⊢;obtain⟨h3,h4⟩:=h;rw [Nm.cmpRev] at h1 h2;have e1:=(ordS_swap h3 y).2;have e2:=ordS_anti x y
  by_cases hxy:Nm.ordS x y=0
  ·rw [if_pos hxy] at h1;rw [if_pos (by omega)] at h2;exact⟨hxy,preR_mid a b c h4 h1 h2⟩
  ·rw [if_neg hxy] at h1;rw [if_neg (by omega)] at h2;omega
theorem preR_trans:∀ (a b c:List ByteArray),preR a b=true->preR b c=true->preR a c=true
 |[],b,c,_,_=>by simp [preR]
 |x::a,[],c,h,_=>by simp [preR] at h
 |x::a,y::b,[],_,h=>by simp [preR] at h
 |x::a,y::b,z::c,h1,h2=>by
  simp only [preR,Bool.and_eq_true,decide_eq_true_eq] at h1 h2 ⊢;exact⟨by rw [(ordS_swap h1.1 z).1];exact h2.1,preR_trans a b c h1.2 h2.2⟩
theorem preR_le:∀ (a c:List ByteArray),preR a c=true->Nm.cmpRev a c<=0
 |[],[],_=>by simp [Nm.cmpRev]
 |[],y::c,_=>by simp [Nm.cmpRev]
 |x::a,[],h=>by simp [preR] at h
 |x::a,y::c,h=>by
  simp only [preR,Bool.and_eq_true,decide_eq_true_eq] at h;rw [Nm.cmpRev,if_pos h.1];exact preR_le a c h.2
theorem under_mid{n t o:List ByteArray}(h:underB n t=true)(h1:Nm.cmpLs t o<0)(h2:Nm.cmpLs o n<0):underB o t=true:=by
 rw [under_pre] at h ⊢;exact preR_mid _ _ _ h (by rw [Nm.cmpLs] at h1;omega) (by rw [Nm.cmpLs] at h2;omega)
theorem under_trans{a b c:List ByteArray}(h1:underB a b=true)(h2:underB b c=true):underB a c=true:=by
 rw [under_pre] at h1 h2 ⊢;exact preR_trans _ _ _ h2 h1
theorem under_le{a b:List ByteArray}(h:underB a b=true):Nm.cmpLs b a<=0:=by
 rw [under_pre] at h;exact preR_le _ _ h
theorem under_len{a b:List ByteArray}(h:underB a b=true):b.length<a.length↔Nm.cmpLs a b≠0:=by
 simp only [underB,Bool.and_eq_true,decide_eq_true_eq] at h;constructor
 ·intro h1 h2;have:=len_same h2;omega
 ·intro h1
  rcases Nat.lt_or_eq_of_le h.1 with h2|h2
  ·exact h2
  ·exfalso
   apply h1;have:=h.2;rw [h2,Nat.sub_self,List.drop_zero] at this;exact this
def has39(o:GOw):Bool:=isIn (sCmp 39) o.ss
def belStep(acc:Option GOw×List GOw)(o:GOw):Option GOw×List GOw:=match acc.1 with
 |some q=>if underB o.lab q.lab then(some q,acc.2++[o]) else if has39 o then(some o,acc.2) else(some q,acc.2)
 |none=>if has39 o then(some o,acc.2) else(none,acc.2)
def belK(os:List GOw):Option GOw×List GOw:=os.foldl belStep (none,[])
theorem belK_snoc(os:List GOw)(o:GOw):belK (os++[o])=belStep (belK os) o:=by simp [belK,List.foldl_append]
structure BelInv (pre:List GOw):Prop where
 tail:∀ q,(belK pre).1=some q->q∈pre∧has39 q=true
 out:∀ o∈pre,(o∈(belK pre).2↔ ∃ q∈pre,has39 q=true∧Nm.cmpLs o.lab q.lab≠0∧underB o.lab q.lab=true)
 sub:∀ o∈(belK pre).2,o∈pre
 cov:∀ q∈pre,has39 q=true->∃ t,(belK pre).1=some t∧∀ n,(∀ p∈pre,Nm.cmpLs p.lab n<0)->underB n q.lab=true->underB n t.lab=true
theorem snoc_ind{α:Type}{P:List α->Prop}(h0:P [])(h1:∀ l a,P l->P (l++[a]))(l:List α):P l:=by
 have h:∀ m:List α,P m.reverse:=by
  intro m
  induction m with
  |nil=>exact h0
  |cons a m ih=>rw [List.reverse_cons];exact h1 _ _ ih
 have h2:=h l.reverse
 rwa [List.reverse_reverse] at h2
theorem bel_inv:∀ (pre:List GOw),OwS pre->BelInv pre:=by
 refine snoc_ind (P:=fun pre=>OwS pre->BelInv pre) ?_ ?_
 ·intro _;exact⟨by simp [belK],by simp,by simp [belK],by simp⟩
 ·intro pre o ih hs;obtain⟨hs1,_,hs2⟩:=List.pairwise_append.1 hs;have hlt:∀ p∈pre,Nm.cmpLs p.lab o.lab<0:=fun p hp=>hs2 p hp o (by simp)
  have I:=ih hs1
  have hne:∀ p∈pre,p≠o:=fun p hp e=>by
   have:=hlt p hp;rw [e,cmpLs_self] at this;omega
  have up:∀ p∈pre,underB p.lab o.lab=false:=fun p hp=>by
   cases h:underB p.lab o.lab with
   |false=>rfl
   |true=>have h1:=under_le h;have h2:=hlt p hp;have h3:=cmpLs_anti p.lab o.lab;omega
  have strict:∀ q∈pre,Nm.cmpLs o.lab q.lab≠0:=fun q hq=>by have h1:=hlt q hq;have h2:=cmpLs_anti q.lab o.lab;omega
  have key:(∃ q∈pre,has39 q=true∧underB o.lab q.lab=true)↔ ∃ t,(belK pre).1=some t∧underB o.lab t.lab=true:=by
   constructor
   ·rintro⟨q,hq,h1,h2⟩
    obtain⟨t,ht,h3⟩:=I.cov q hq h1;exact⟨t,ht,h3 o.lab hlt h2⟩
   ·rintro⟨t,ht,h2⟩
    exact⟨t,(I.tail t ht).1,(I.tail t ht).2,h2⟩
  have outs:∀ (p:GOw) (t':Option GOw) (out':List GOw),p∈pre->(p∈out'↔p∈(belK pre).2)->(p∈out'↔ ∃ q∈pre++[o],has39 q=true∧Nm.cmpLs p.lab q.lab≠0∧underB p.lab q.lab=true):=by
   intro p t' out' hp he;rw [he,I.out p hp];constructor
   ·rintro⟨q,hq,h⟩;exact⟨q,by simp [hq],h⟩
   ·rintro⟨q,hq,h1,h2,h3⟩
    rcases List.mem_append.1 hq with hq|hq
    ·exact⟨q,hq,h1,h2,h3⟩
    ·obtain rfl:=List.mem_singleton.1 hq;rw [up p hp] at h3;cases h3
  by_cases hk:∃ q∈pre,has39 q=true∧underB o.lab q.lab=true
  ·obtain⟨t,ht,hu⟩:=key.1 hk
   have e:belK (pre++[o])=(some t,(belK pre).2++[o]):=by
    rw [belK_snoc,belStep,ht];simp [hu]
   refine⟨fun q hq=>?_,fun p hp=>?_,fun p hp=>?_,fun q hq h1=>?_⟩
   ·rw [e] at hq;obtain rfl:=Option.some.inj hq;exact⟨by simp [(I.tail t ht).1],(I.tail t ht).2⟩
   ·rw [e]
    rcases List.mem_append.1 hp with hp|hp
    ·exact outs p none _ hp (by simp [hne p hp])
    ·obtain rfl:=List.mem_singleton.1 hp;refine⟨fun _=>?_,fun _=>by simp⟩;obtain⟨q,hq,h1,h2⟩:=hk;exact⟨q,by simp [hq],h1,strict q hq,h2⟩
   ·rw [e] at hp
    rcases List.mem_append.1 hp with hp|hp
    ·simp [I.sub p hp]
    ·simp at hp;simp [hp]
   ·rw [e];refine⟨t,rfl,fun n hn h2=>?_⟩
    rcases List.mem_append.1 hq with hq|hq
    ·obtain⟨t2,ht2,h3⟩:=I.cov q hq h1;rw [ht] at ht2;obtain rfl:=Option.some.inj ht2;exact h3 n (fun p hp=>hn p (by simp [hp])) h2
    ·obtain rfl:=List.mem_singleton.1 hq;exact under_trans h2 hu
  ·have hno:¬∃ t,(belK pre).1=some t∧underB o.lab t.lab=true:=fun h=>hk (key.2 h)
   have e2:(belK (pre++[o])).2=(belK pre).2∧(belK (pre++[o])).1=if has39 o then some o else(belK pre).1:=by
    rw [belK_snoc,belStep]
    cases ht:(belK pre).1 with
    |none=>cases h:has39 o<;>simp
    |some t=>
     have hu:underB o.lab t.lab=false:=by
      cases h:underB o.lab t.lab with
      |false=>rfl
      |true=>exact absurd ⟨t,ht,h⟩ hno
     cases h:has39 o<;>simp [hu]
   refine⟨fun q hq=>?_,fun p hp=>?_,fun p hp=>?_,fun q hq h1=>?_⟩
   ·rw [e2.2] at hq
    by_cases h:has39 o=true
    ·rw [if_pos h] at hq;obtain rfl:=Option.some.inj hq;exact⟨by simp,h⟩
    ·rw [if_neg h] at hq;exact⟨by simp [(I.tail q hq).1],(I.tail q hq).2⟩
   ·rw [e2.1]
    rcases List.mem_append.1 hp with hp|hp
    ·exact outs p none _ hp Iff.rfl
    ·obtain rfl:=List.mem_singleton.1 hp;constructor
     ·intro h1;exact absurd rfl (hne _ (I.sub _ h1))
     ·rintro⟨q,hq,h1,h2,h3⟩
      rcases List.mem_append.1 hq with hq|hq
      ·exact absurd ⟨q,hq,h1,h3⟩ hk
      ·obtain rfl:=List.mem_singleton.1 hq;exact absurd (cmpLs_self _) h2
   ·rw [e2.1] at hp;simp [I.sub p hp]
   ·rw [e2.2]
    by_cases h:has39 o=true
    ·rw [if_pos h];refine⟨o,rfl,fun n hn h2=>?_⟩
     rcases List.mem_append.1 hq with hq|hq
     ·exfalso
      refine hk ⟨q,hq,h1,under_mid h2 (hlt q hq) (hn o (by simp))⟩
     ·obtain rfl:=List.mem_singleton.1 hq;exact h2
    ·rw [if_neg h]
     rcases List.mem_append.1 hq with hq|hq
     ·obtain⟨t,ht,h3⟩:=I.cov q hq h1;exact⟨t,ht,fun n hn=>h3 n (fun p hp=>hn p (by simp [hp]))⟩
     ·obtain rfl:=List.mem_singleton.1 hq;exact absurd h1 h
theorem kin_of{x y:It}(hx:GoodI x)(hy:GoodI y):kinB x y=true↔OfS (labI x) x.r.ty y:=by
 simp only [kinB,Bool.and_eq_true,decide_eq_true_eq,OfS,OfO];rw [good_fo hy hx]
theorem dup_iff{l:List It}{x:It}(hl:∀ y∈l,GoodI y)(hx:GoodI x):dupI l x=true↔ ∃ y∈l,OfD (labI x) x.r.ty x.dt y:=by
 rw [dupI,List.any_eq_true];constructor
 ·rintro⟨y,hy,h⟩
  simp only [Bool.and_eq_true,decide_eq_true_eq] at h;exact⟨y,hy,(kin_of hx (hl y hy)).1 h.1,h.2⟩
 ·rintro⟨y,hy,h⟩
  refine⟨y,hy,?_⟩;simp only [Bool.and_eq_true,decide_eq_true_eq];exact⟨(kin_of hx (hl y hy)).2 h.1,h.2⟩
def keptB(l:List It)(i:Nat):Bool:=match l[i]? with
 |some x=> !dupI (l.take i) x
 |none=>false
structure KInv (l:List It) (os:List GOw) (ks:List Ld):Prop where
 ats:ks.map (·.at_)=(List.range l.length).filter (keptB l)
 ok:∀ k∈ks,∃ x,l[k.at_]? =some x∧k.ty=x.r.ty∧∃ o∈os,o.blk=k.ob∧OfO o.lab x∧∃ s∈o.ss,s.blk=k.sb∧s.ty=x.r.ty
theorem KInv.nil:KInv [] [] []:=⟨rfl,by simp⟩
theorem KInv.len{l:List It}{os:List GOw}{ks:List Ld}(h:KInv l os ks):ks.length<=l.length:=by
 have:=congrArg List.length h.ats;rw [List.length_map] at this;rw [this];exact Nat.le_trans (List.length_filter_le _ _) (by simp)
theorem KInv.step{l:List It}{x:It}{lv:Value}{os os':List GOw}{o':GOw}{s':GSe}{isNew:Bool}{ks:List Ld}(h:KInv l os ks)(hl:∀ y∈l,GoodI y)(hx:GoodI x)(hR:LayR l x lv os os' o' s' isNew):
 KInv (l++[x]) os' (if isNew=true then ks++[⟨l.length,x.r.ty,o'.blk,s'.blk⟩] else ks):=by
 have hnew:isNew= !dupI l x:=by
  have h1:=hR.nw;have h2:=dup_iff hl hx
  cases hd:dupI l x with
  |true=>
   obtain⟨y,hy,h3⟩:=h2.1 hd
   cases hi:isNew with
   |false=>rfl
   |true=>exact absurd h3 (h1.1 hi y hy)
  |false=>
   refine h1.2 (fun y hy h3=>?_);have:=h2.2 ⟨y,hy,h3⟩;rw [hd] at this;cases this
 have hats:(List.range (l++[x]).length).filter (keptB (l++[x]))=(List.range l.length).filter (keptB l)++(if isNew=true then [l.length] else []):=by
  rw [List.length_append,List.length_singleton,List.range_succ,List.filter_append];congr 1
  ·apply List.filter_congr;intro i hi;have hi':i<l.length:=by simpa using hi
   rw [keptB,keptB,List.getElem?_append_left hi',List.take_append_of_le_length (by omega)]
  ·rw [List.filter_cons,keptB,List.getElem?_append_right (Nat.le_refl _),List.take_left']
   ·simp only [Nat.sub_self,List.getElem?_cons_zero,hnew];cases dupI l x<;>rfl
   ·rfl
 have old:∀ k∈ks,∃ z,(l++[x])[k.at_]? =some z∧k.ty=z.r.ty∧∃ o∈os',o.blk=k.ob∧OfO o.lab z∧∃ s∈o.ss,s.blk=k.sb∧s.ty=z.r.ty:=by
  intro k hk;obtain⟨z,h1,h2,o,ho,h3,h4,s,hs,h5,h6⟩:=h.ok k hk;obtain⟨q,hq,q1,q2,_,q3⟩:=hR.kept o ho;obtain⟨t,ht,t1,t2⟩:=q3 s hs;exact⟨z,by rw [List.getElem?_append_left (List.getElem?_eq_some_iff.1 h1).1];exact h1,h2,q,hq,by rw [q1,h3],by rw [q2];exact h4,t,ht,by rw [t1,h5],by rw [t2,h6]⟩
 cases hi:isNew with
 |false=>
  refine⟨?_,by simpa [hi] using old⟩;rw [hats,hi]
  simp [h.ats]
 |true=>
  refine⟨?_,fun k hk=>?_⟩
  ·rw [hats,hi];simp [h.ats]
  ·simp only [if_true,List.mem_append,List.mem_singleton] at hk
   rcases hk with hk|rfl
   ·exact old k hk
   ·exact⟨x,by simp,rfl,o',hR.isOwn.1,rfl,hR.isOwn.2,s',hR.isSet.1,rfl,hR.isSet.2⟩
def askK(l:List It)(p:Nat->It->Bool)(k:Ld):Bool:=match l[k.at_]? with
 |some x=>p k.at_ x
 |none=>false
theorem find_congrL{α:Type}{p q:α->Bool}:∀ {l:List α},(∀ x∈l,p x=q x)->l.find? p=l.find? q:=by
 intro l
 induction l with
 |nil=>intro _;rfl
 |cons x l ih=>
  intro h;rw [List.find?_cons,List.find?_cons,h x (by simp),ih (fun y hy=>h y (by simp [hy]))]
theorem fst_rule{l:List It}{os:List GOw}{ks:List Ld}(hK:KInv l os ks)(hl:∀ y∈l,GoodI y)(p:Nat->It->Bool)(hp:∀ i x,x.out=true->p i x=false)(code:Int):
 fstR (askK l p) code ks=match firstI p (twI l) with
  |some i=>.tuple #[.int .i64 code,.int .i64 (i:Int)]
  |none=>.tuple #[.int .i64 0,.int .i64 0]:=by
 have e:firstI p (twI l)=(ks.find? (askK l p)).map (·.at_):=by
  have e1:ks.find? (askK l p)=ks.find? ((fun i=>match l[i]? with|some x=>p i x|none=>false)∘(·.at_)):=rfl;rw [e1,<- List.find?_map,hK.ats,List.find?_filter,firstI,twI_len];apply find_congrL;intro i hi;have hi':i<l.length:=by simpa using hi
  have hx:l[i]? =some l[i]:=List.getElem?_eq_getElem hi';rw [twI_get hx,keptB,hx];have hg:=hl l[i] (List.mem_of_getElem? hx);simp only
  by_cases hd:dupI (l.take i) l[i]=true
  ·rw [hp i (outI (dupI (l.take i) l[i]) l[i]) (by simp [outI,hd])];simp [hd]
  ·have hd':dupI (l.take i) l[i]=false:=by simpa using hd
   have:outI (dupI (l.take i) l[i]) l[i]=l[i]:=by rw [hd'];simp [outI]
   rw [this];simp [hd']
 rw [e,fstR]
 cases ks.find? (askK l p) with
 |none=>rfl
 |some x=>rfl
theorem hasI_iff{l:List It}(hl:∀ y∈l,GoodI y)(i:Nat)(fo:ByteArray)(t:Int):hasI ((twI l).take i) fo t=true↔ ∃ (j:Nat) (y:It),j<i∧l[j]? =some y∧y.fo=fo∧y.r.ty=t:=by
 rw [hasI,List.any_eq_true];constructor
 ·rintro⟨z,hz,h⟩
  obtain⟨j,hj⟩:=List.getElem?_of_mem hz;have hjl:=(List.getElem?_eq_some_iff.1 hj).1;rw [List.length_take,twI_len] at hjl;rw [List.getElem?_take_of_lt (by omega)] at hj;have hx:l[j]? =some l[j]:=List.getElem?_eq_getElem (by omega);rw [twI_get hx] at hj;obtain rfl:=Option.some.inj hj;simp only [outI,Bool.and_eq_true] at h;exact⟨j,l[j],by omega,hx,of_decide_eq_true h.1.2,of_decide_eq_true h.2⟩
 ·rintro⟨j0,y0,hj0,hy0,h1,h2⟩
  obtain⟨j,y,hF⟩:=First.ex (P:=fun y:It=>y.fo=fo∧y.r.ty=t) (l:=l.take i) ⟨y0,List.mem_of_getElem? (i:=j0) (by rw [List.getElem?_take_of_lt hj0];exact hy0),h1,h2⟩;have hji:j<i:=by have:=hF.lt;rw [List.length_take] at this;omega
  have hy:l[j]? =some y:=by have:=hF.1;rw [List.getElem?_take_of_lt hji] at this;exact this
  have hd:dupI (l.take j) y=false:=by
   cases hd:dupI (l.take j) y with
   |false=>rfl
   |true=>
    exfalso
    rw [dupI,List.any_eq_true] at hd;obtain⟨z,hz,h⟩:=hd;simp only [kinB,Bool.and_eq_true,decide_eq_true_eq] at h;obtain⟨m,hm⟩:=List.getElem?_of_mem hz;have hml:=(List.getElem?_eq_some_iff.1 hm).1;rw [List.length_take] at hml;rw [List.getElem?_take_of_lt (by omega)] at hm;exact hF.2.2 m z (by omega) (by rw [List.getElem?_take_of_lt (by omega)];exact hm) ⟨h.1.1.trans hF.2.1.1,h.1.2.trans hF.2.1.2⟩
  refine⟨y,List.mem_of_getElem? (i:=j) ?_,?_⟩
  ·rw [List.getElem?_take_of_lt hji,twI_get hy,hd];simp [outI]
  ·have:=(hl y (List.mem_of_getElem? hy)).2.2.2;simp [this,hF.2.1.1,hF.2.1.2]
theorem hasI_all{l:List It}(hl:∀ y∈l,GoodI y)(fo:ByteArray)(t:Int):hasI (twI l) fo t=true↔ ∃ y∈l,y.fo=fo∧y.r.ty=t:=by
 have h:=hasI_iff hl l.length fo t;rw [List.take_of_length_le (by rw [twI_len];exact Nat.le_refl _)] at h;rw [h];constructor
 ·rintro⟨j,y,_,hy,h1⟩;exact⟨y,List.mem_of_getElem? hy,h1⟩
 ·rintro⟨y,hy,h1⟩
  obtain⟨j,hj⟩:=List.getElem?_of_mem hy;exact⟨j,y,(List.getElem?_eq_some_iff.1 hj).1,hj,h1⟩
theorem isIn_set{ss:List GSe}(h:SeS ss)(t:Int):isIn (sCmp t) ss=true↔ ∃ s∈ss,s.ty=t:=by
 rcases place_split (f:=sCmp t) h (sCmp_mono t) with⟨hi,A,C,e,hp,ha,hc⟩|⟨hi,A,o,C,e,hp,h0,ha,hc⟩
 ·rw [hi];refine Iff.intro (fun h=>by cases h) (fun h9=>?_);obtain⟨s,hs,h1⟩:=h9;have h0:sCmp t s=0:=sCmp_zero.2 h1;rw [e] at hs
  rcases List.mem_append.1 hs with hs|hs
  ·have:=ha s hs;omega
  ·have:=hc s hs;omega
 ·rw [hi];exact⟨fun _=>⟨o,by rw [e];simp,sCmp_zero.1 h0⟩,fun _=>rfl⟩
theorem hasT_iff{os:List GOw}(h:OwS os∧∀ o∈os,SeS o.ss)(lab:List ByteArray)(t:Int):hasT lab t os=true↔ ∃ o∈os,Nm.cmpLs o.lab lab=0∧∃ s∈o.ss,s.ty=t:=by
 rcases place_split (f:=oCmp lab) h.1 (oCmp_mono lab) with⟨hi,A,C,e,hp,ha,hc⟩|⟨hi,A,o,C,e,hp,h0,ha,hc⟩
 ·have e9:hasT lab t os=false:=by
   rw [hasT]
   cases os[posOf (oCmp lab) os]? with
   |none=>rfl
   |some o=>rw [hi];rfl
  rw [e9];refine Iff.intro (fun h=>by cases h) (fun h9=>?_);obtain⟨q,hq,h1,_⟩:=h9;rw [e] at hq
  rcases List.mem_append.1 hq with hq|hq
  ·have:=ha q hq;rw [oCmp] at this;omega
  ·have:=hc q hq;rw [oCmp] at this;omega
 ·have hg:os[posOf (oCmp lab) os]? =some o:=by
   rw [hp,e,List.getElem?_append_right (Nat.le_refl _)];simp
  have hm:o∈os:=List.mem_of_getElem? hg;have e9:hasT lab t os=isIn (sCmp t) o.ss:=by rw [hasT,hg,hi];rfl
  rw [e9,isIn_set (h.2 o hm)];constructor
  ·exact fun h=>⟨o,hm,h0,h⟩
  ·rintro⟨q,hq,h1,h2⟩
   rw [e] at hq
   rcases mem_mid hq with rfl|hq|hq
   ·exact h2
   ·have:=ha q hq;rw [oCmp] at this;omega
   ·have:=hc q hq;rw [oCmp] at this;omega
theorem TInv.sets{l:List It}{os:List GOw}(h:TInv l os)(lab:List ByteArray)(t:Int):(∃ o∈os,Nm.cmpLs o.lab lab=0∧∃ s∈o.ss,s.ty=t)↔ ∃ y∈l,OfS lab t y:=by
 constructor
 ·rintro⟨o,ho,h1,s,hs,h2⟩
  obtain⟨y,hy,_⟩:=h.set o ho s hs;exact⟨y,hy.mem,by rw [OfO,<- cmpLs_eq_right h1];exact hy.2.1.1,by rw [hy.2.1.2,h2]⟩
 ·rintro⟨y,hy,h1⟩
  obtain⟨o,ho,h2,s,hs,h3,_⟩:=h.cov y hy;exact⟨o,ho,by rw [<- cmpLs_eq_left h2];exact h1.1,s,hs,by rw [h3,h1.2]⟩
theorem TInv.has{l:List It}{os:List GOw}(h:TInv l os)(hl:∀ y∈l,GoodI y){a:ByteArray}{lab:List ByteArray}(ha:Nm.split a=some lab)(t:Int):hasT lab t os=hasI (twI l) (Nm.foldS a) t:=by
 rw [Bool.eq_iff_iff,hasT_iff ⟨h.sorted.1,fun o ho=>(h.sorted.2 o ho).1⟩,h.sets,hasI_all hl];constructor
 ·rintro⟨y,hy,h1,h2⟩
  exact⟨y,hy,by rw [(hl y hy).2.1];exact(fold_lab (hl y hy).1 ha).2 h1,h2⟩
 ·rintro⟨y,hy,h1,h2⟩
  rw [(hl y hy).2.1] at h1;exact⟨y,hy,(fold_lab (hl y hy).1 ha).1 h1,h2⟩
theorem TInv.one{l:List It}{os:List GOw}(h:TInv l os){o q:GOw}(ho:o∈os)(hq:q∈os)(e:Nm.cmpLs o.lab q.lab=0):o=q:=by
 obtain⟨i,hi⟩:=List.getElem?_of_mem ho;obtain⟨j,hj⟩:=List.getElem?_of_mem hq;have hi':=List.getElem?_eq_some_iff.1 hi;have hj':=List.getElem?_eq_some_iff.1 hj;have hp:=List.pairwise_iff_getElem.1 h.sorted.1
 rcases Nat.lt_trichotomy i j with h1|h1|h1
 ·have:=hp i j hi'.1 hj'.1 h1;rw [hi'.2,hj'.2] at this;omega
 ·subst h1;rw [hi] at hj;exact Option.some.inj hj
 ·have:=hp j i hj'.1 hi'.1 h1;rw [hi'.2,hj'.2] at this;have h2:=cmpLs_anti o.lab q.lab;omega
theorem before_iff{l:List It}{os:List GOw}(hT:TInv l os)(hl:∀ y∈l,GoodI y){i:Nat}{x:It}{o:GOw}{s:GSe}(hx:l[i]? =some x)(ho:o∈os)(hox:OfO o.lab x)(hs:s∈o.ss)(hst:s.ty=x.r.ty):((i:Int) != (s.fi:Int))=hasI ((twI l).take i) x.fo x.r.ty:=by
 obtain⟨y,hF,_⟩:=hT.set o ho s hs
 have hle:s.fi<=i:=by
  rcases Nat.lt_or_ge i s.fi with h|h
  ·exact absurd ⟨hox,hst.symm⟩ (hF.2.2 i x h hx)
  ·exact h
 rw [Bool.eq_iff_iff,hasI_iff hl];have hgx:=hl x (List.mem_of_getElem? hx);constructor
 ·intro h;have hne:s.fi≠i:=by intro e;rw [e] at h;simp at h
  have hgy:=hl y hF.mem;refine⟨s.fi,y,by omega,hF.1,?_,?_⟩
  ·rw [good_fo hgy hgx,cmpLs_eq_right hox];exact hF.2.1.1
  ·rw [hF.2.1.2,hst]
 ·rintro⟨j,z,hj,hz,h1,h2⟩
  have hgz:=hl z (List.mem_of_getElem? hz);have hzo:OfS o.lab s.ty z:=⟨by rw [OfO,<- cmpLs_eq_right hox];exact(good_fo hgz hgx).1 h1,by rw [h2,hst]⟩
  have:s.fi<=j:=by
   rcases Nat.lt_or_ge j s.fi with h|h
   ·exact absurd hzo (hF.2.2 j z h hz)
   ·exact h
  rw [bne_iff_ne];omega
theorem rule_soa{l:List It}{os:List GOw}(hT:TInv l os)(hl:∀ y∈l,GoodI y){apex:ByteArray}{al:List ByteArray}(ha:Nm.split apex=some al)(hu:∀ y∈l,isUnderS y.r.own apex=true){i:Nat}{x:It}{o:GOw}{s:GSe}(hx:l[i]? =some x)(ho:o∈os)(hox:OfO o.lab x)(hs:s∈o.ss)(hst:s.ty=x.r.ty):
 (x.r.ty==6&&(decide (al.length<o.lab.length)||((i:Int) != (s.fi:Int))))=ru1 (twI l) (Nm.foldS apex) i x:=by
 have hgx:=hl x (List.mem_of_getElem? hx);have hun:underB (labI x) al=true:=by have:=hu x (List.mem_of_getElem? hx);rwa [isUnder_some hgx.1 ha] at this
 rw [before_iff hT hl hx ho hox hs hst,ru1,hgx.2.2.2];simp only [Bool.not_false,Bool.true_and]
 by_cases h6:x.r.ty=6
 ·rw [h6];simp only [beq_self_eq_true,Bool.true_and,decide_true];have hfo:x.fo=Nm.foldS apex↔Nm.cmpLs (labI x) al=0:=by rw [hgx.2.1];exact fold_lab hgx.1 ha
  have hle:al.length<o.lab.length↔x.fo≠Nm.foldS apex:=by rw [<- len_same hox,under_len hun,Ne,Ne,hfo]
  by_cases h:x.fo=Nm.foldS apex
  ·rw [<- h];have h':¬al.length<o.lab.length:=fun z=>hle.1 z h
   simp [h']
  ·have h':al.length<o.lab.length:=hle.2 h;simp [h',h]
 ·simp [h6]
theorem rule_wild{l:List It}{os:List GOw}(hT:TInv l os)(hl:∀ y∈l,GoodI y){i:Nat}{x:It}{o:GOw}(hx:l[i]? =some x)(ho:o∈os)(hox:OfO o.lab x):((x.r.ty==2||x.r.ty==39)&&wildL o.lab)=ru2 x:=by
 have hgx:=hl x (List.mem_of_getElem? hx);rw [ru2,hgx.2.2.2,hgx.2.1,starB_fold hgx.1,wildL_same hox];simp only [Bool.not_false,Bool.true_and];rw [Bool.and_comm];congr 1
theorem rule_single{l:List It}{os:List GOw}(hT:TInv l os)(hl:∀ y∈l,GoodI y){i:Nat}{x:It}{o:GOw}{s:GSe}(hx:l[i]? =some x)(ho:o∈os)(hox:OfO o.lab x)(hs:s∈o.ss)(hst:s.ty=x.r.ty):((x.r.ty==5||x.r.ty==39)&&((i:Int) != (s.fi:Int)))=ru3 (twI l) i x:=by
 have hgx:=hl x (List.mem_of_getElem? hx);rw [before_iff hT hl hx ho hox hs hst,ru3,hgx.2.2.2];simp only [Bool.not_false,Bool.true_and];congr 1
theorem rule_alias{l:List It}{os:List GOw}(hT:TInv l os)(hl:∀ y∈l,GoodI y){i:Nat}{x:It}{o:GOw}(hx:l[i]? =some x)(ho:o∈os)(hox:OfO o.lab x):(x.r.ty != 5&&x.r.ty != 47&&isIn (sCmp 5) o.ss)=ru4 (twI l) x:=by
 have hgx:=hl x (List.mem_of_getElem? hx)
 have e:isIn (sCmp 5) o.ss=hasI (twI l) x.fo 5:=by
  rw [Bool.eq_iff_iff,isIn_set (hT.sorted.2 o ho).1,hasI_all hl];constructor
  ·rintro⟨s,hs,h1⟩
   obtain⟨y,hF,_⟩:=hT.set o ho s hs;refine⟨y,hF.mem,?_,by rw [hF.2.1.2,h1]⟩;rw [good_fo (hl y hF.mem) hgx,cmpLs_eq_right hox];exact hF.2.1.1
  ·rintro⟨y,hy,h1,h2⟩
   have h3:Nm.cmpLs (labI y) o.lab=0:=by rw [<- cmpLs_eq_right hox];exact(good_fo (hl y hy) hgx).1 h1
   obtain⟨q,hq,h4,s,hs,h5,_⟩:=hT.cov y hy;obtain rfl:=hT.one ho hq (by rw [<- cmpLs_eq_left h3];exact h4);exact⟨s,hs,by rw [h5,h2]⟩
 rw [e,ru4,hgx.2.2.2];simp only [Bool.not_false,Bool.true_and];have z:∀ a b:Int,(a != b)=decide (a≠b):=fun a b=>by rw [Bool.eq_iff_iff];simp
 rw [z,z]
theorem rule_below{l:List It}{os:List GOw}(hT:TInv l os)(hl:∀ y∈l,GoodI y){i:Nat}{x:It}{o:GOw}(hx:l[i]? =some x)(ho:o∈os)(hox:OfO o.lab x)(hinj:∀ q∈os,q.blk=o.blk->q=o):decide (o.blk∈(belK os).2.map (·.blk))=ru5 (twI l) x:=by
 have hgx:=hl x (List.mem_of_getElem? hx);have I:=bel_inv os hT.sorted.1
 have h1:o.blk∈(belK os).2.map (·.blk)↔o∈(belK os).2:=by
  rw [List.mem_map];constructor
  ·rintro⟨q,hq,e⟩
   rw [<- hinj q (I.sub q hq) e];exact hq
  ·intro h;exact⟨o,h,rfl⟩
 rw [Bool.eq_iff_iff,decide_eq_true_eq,h1,I.out o ho,ru5,hgx.2.2.2];simp only [Bool.not_false,Bool.true_and];rw [List.any_eq_true];constructor
 ·rintro⟨q,hq,h2,h3,h4⟩
  obtain⟨s,hs,h5⟩:=(isIn_set (hT.sorted.2 q hq).1 39).1 h2;obtain⟨y,hF,_⟩:=hT.set q hq s hs;have hgy:=hl y hF.mem;have hyq:Nm.cmpLs (labI y) q.lab=0:=hF.2.1.1;refine⟨y,List.mem_of_getElem? (i:=s.fi) ?_,?_⟩
  ·rw [twI_get hF.1]
   have hd:dupI (l.take s.fi) y=false:=by
    cases hd:dupI (l.take s.fi) y with
    |false=>rfl
    |true=>
     exfalso
     rw [dup_iff (fun z hz=>hl z (List.mem_of_mem_take hz)) hgy] at hd;obtain⟨z,hz,⟨h6,h7⟩,_⟩:=hd;obtain⟨m,hm⟩:=List.getElem?_of_mem hz;have hml:=(List.getElem?_eq_some_iff.1 hm).1;rw [List.length_take] at hml;rw [List.getElem?_take_of_lt (by omega)] at hm;exact hF.2.2 m z (by omega) hm ⟨by rw [OfO,<- cmpLs_eq_right hyq];exact h6,by rw [h7];exact hF.2.1.2⟩
   rw [hd];simp [outI]
  ·have e1:Nm.cmpLs (labI x) (labI y)=Nm.cmpLs o.lab q.lab:=by rw [cmpLs_eq_left hox,cmpLs_eq_right hyq]
   have e2:y.fo≠x.fo:=fun e=>h3 (by rw [<- e1];exact(good_fo hgx hgy).1 e.symm)
   have e3:isUnderS x.fo y.fo=true:=by rw [hgx.2.1,hgy.2.1,isUnder_fold hgx.1 hgy.1,underB_same hox hyq];exact h4
   have e4:y.r.ty=39:=by rw [hF.2.1.2,h5]
   rw [be5,hgy.2.2.2,e4,e3];simp [e2]
 ·rintro⟨z,hz,h2⟩
  obtain⟨j,hj⟩:=List.getElem?_of_mem hz;have hjl:=(List.getElem?_eq_some_iff.1 hj).1;rw [twI_len] at hjl;have hy:l[j]? =some l[j]:=List.getElem?_eq_getElem hjl;rw [twI_get hy] at hj;obtain rfl:=Option.some.inj hj;have hgy:=hl l[j] (List.mem_of_getElem? hy);simp only [be5,outI,Bool.and_eq_true] at h2;obtain⟨⟨⟨_,h3'⟩,h4'⟩,h5⟩:=h2;have h3:l[j].r.ty=39:=of_decide_eq_true h3';have h4:l[j].fo≠x.fo:=of_decide_eq_true h4';obtain⟨q,hq,h6,s,hs,h7,_⟩:=hT.cov l[j] (List.mem_of_getElem? hy);have h6':Nm.cmpLs (labI l[j]) q.lab=0:=h6;refine⟨q,hq,(isIn_set (hT.sorted.2 q hq).1 39).2 ⟨s,hs,by rw [h7,h3]⟩,fun e=>h4 ?_,?_⟩
  ·refine((good_fo hgx hgy).2 ?_).symm;rw [cmpLs_eq_left hox,cmpLs_eq_right h6'];exact e
  ·rw [hgx.2.1,hgy.2.1,isUnder_fold hgx.1 hgy.1,underB_same hox h6'] at h5;exact h5
def Bf(a b:It):Prop:=befI a b=true
theorem less_ord(a b:List UInt8):Op.bytesLess a b=true↔Nm.ordL a b<0:=by
 unfold Nm.ordL;constructor
 ·intro h;rw [if_pos h];decide
 ·intro h
  by_cases h1:Op.bytesLess a b=true
  ·exact h1
  ·rw [if_neg h1] at h
   by_cases h2:a=b
   ·rw [if_pos h2] at h;omega
   ·rw [if_neg h2] at h;omega
theorem cmpS_nz{a b:ByteArray}(h:Nm.cmpS a b≠0):∃ xs ys,Nm.split a=some xs∧Nm.split b=some ys∧Nm.cmpS a b=Nm.cmpLs xs ys:=by
 unfold Nm.cmpS at h ⊢
 cases ha:Nm.split a with
 |none=>rw [ha] at h;exact absurd rfl h
 |some xs=>
  cases hb:Nm.split b with
  |none=>rw [ha,hb] at h;exact absurd rfl h
  |some ys=>exact⟨xs,ys,rfl,rfl,rfl⟩
theorem cmpS_self(a:ByteArray):Nm.cmpS a a=0:=by
 by_cases h:Nm.cmpS a a=0
 ·exact h
 ·obtain⟨xs,ys,h1,h2,h3⟩:=cmpS_nz h;rw [h1] at h2;obtain rfl:=Option.some.inj h2;rw [h3,cmpLs_self]
theorem cmpS_trans{a b c:ByteArray}(h1:Nm.cmpS a b<0)(h2:Nm.cmpS b c<0):Nm.cmpS a c<0:=by
 obtain⟨xs,ys,a1,b1,e1⟩:=cmpS_nz (show Nm.cmpS a b≠0 by omega);obtain⟨ys',zs,b2,c1,e2⟩:=cmpS_nz (show Nm.cmpS b c≠0 by omega);rw [b1] at b2;obtain rfl:=Option.some.inj b2;have:Nm.cmpS a c=Nm.cmpLs xs zs:=by rw [Nm.cmpS,a1,c1]
 rw [this];rw [e1] at h1;rw [e2] at h2;exact cmpLs_lt_trans h1 h2
theorem bf_iff(a b:It):Bf a b↔(a.fo=b.fo∧a.r.ty=b.r.ty∧Nm.ordL a.dt.data.toList b.dt.data.toList<0)∨(a.fo=b.fo∧a.r.ty<b.r.ty)∨(Nm.cmpS a.fo b.fo<0):=by
 unfold Bf befI
 by_cases hf:a.fo=b.fo
 ·rw [if_pos hf];have h0:¬Nm.cmpS a.fo b.fo<0:=by rw [hf,cmpS_self];omega
  by_cases ht:a.r.ty=b.r.ty
  ·rw [if_pos ht,less_ord,ByteArray.toList_eq,ByteArray.toList_eq];constructor
   ·intro h;exact .inl ⟨hf,ht,h⟩
   ·rintro(h|h|h)
    ·exact h.2.2
    ·omega
    ·exact absurd h h0
  ·rw [if_neg ht,decide_eq_true_eq];constructor
   ·intro h;exact .inr (.inl ⟨hf,h⟩)
   ·rintro(h|h|h)
    ·exact absurd h.2.1 ht
    ·exact h.2
    ·exact absurd h h0
 ·rw [if_neg hf,decide_eq_true_eq];constructor
  ·intro h;exact .inr (.inr h)
  ·rintro(h|h|h)
   ·exact absurd h.1 hf
   ·exact absurd h.1 hf
   ·exact h
theorem bf_trans{a b c:It}(h1:Bf a b)(h2:Bf b c):Bf a c:=by
 rw [bf_iff] at*
 rcases h1 with⟨f1,t1,d1⟩|⟨f1,t1⟩|f1<;>rcases h2 with⟨f2,t2,d2⟩|⟨f2,t2⟩|f2
 ·exact .inl ⟨f1.trans f2,t1.trans t2,ordL_lt_trans d1 d2⟩
 ·exact .inr (.inl ⟨f1.trans f2,by omega⟩)
 ·exact .inr (.inr (by rw [f1];exact f2))
 ·exact .inr (.inl ⟨f1.trans f2,by omega⟩)
 ·exact .inr (.inl ⟨f1.trans f2,by omega⟩)
 ·exact .inr (.inr (by rw [f1];exact f2))
 ·exact .inr (.inr (by rw [<- f2];exact f1))
 ·exact .inr (.inr (by rw [<- f2];exact f1))
 ·exact .inr (.inr (cmpS_trans f1 f2))
theorem bf_irrefl(a:It):¬Bf a a:=by
 rw [bf_iff]
 rintro(h|h|h)
 ·have:=(ordL_zero a.dt.data.toList a.dt.data.toList).2 rfl;omega
 ·omega
 ·rw [cmpS_self] at h;omega
theorem sorted_eq{α:Type}{R:α->α->Prop}(irr:∀ a,¬R a a)(tr:∀ a b c,R a b->R b c->R a c):∀ (l1 l2:List α),l1.Pairwise R->l2.Pairwise R->(∀ x,x∈l1↔x∈l2)->l1=l2:=by
 intro l1
 induction l1 with
 |nil=>
  intro l2 _ _ h
  cases l2 with
  |nil=>rfl
  |cons b l2=>exact absurd ((h b).2 (by simp)) (by simp)
 |cons a l1 ih=>
  intro l2 h1 h2 h
  cases l2 with
  |nil=>exact absurd ((h a).1 (by simp)) (by simp)
  |cons b l2=>
   obtain⟨a1,p1⟩:=List.pairwise_cons.1 h1;obtain⟨b1,p2⟩:=List.pairwise_cons.1 h2
   have e:a=b:=by
    rcases List.mem_cons.1 ((h a).1 (by simp)) with e|ha
    ·exact e
    ·rcases List.mem_cons.1 ((h b).2 (by simp)) with e|hb
     ·exact e.symm
     ·exact absurd (tr _ _ _ (a1 b hb) (b1 a ha)) (irr a)
   subst e;rw [ih l2 p1 p2 (fun x=>?_)];constructor
   ·intro hx
    rcases List.mem_cons.1 ((h x).1 (by simp [hx])) with e|h3
    ·exact absurd (a1 x hx) (by rw [e];exact irr a)
    ·exact h3
   ·intro hx
    rcases List.mem_cons.1 ((h x).2 (by simp [hx])) with e|h3
    ·exact absurd (b1 x hx) (by rw [e];exact irr a)
    ·exact h3
theorem merge_pw:∀ (A B:List It),A.Pairwise Bf->B.Pairwise Bf->(∀ a∈A,∀ b∈B,Bf a b∨Bf b a)->(List.merge A B befI).Pairwise Bf:=by
 intro A
 induction A with
 |nil=>intro B _ hB _;rw [List.nil_merge];exact hB
 |cons a A ihA=>
  intro B
  induction B with
  |nil=>intro hA _ _;rw [List.merge_right];exact hA
  |cons b B ihB=>
   intro hA hB hc;obtain⟨a1,p1⟩:=List.pairwise_cons.1 hA;obtain⟨b1,p2⟩:=List.pairwise_cons.1 hB;rw [List.cons_merge_cons]
   by_cases h:befI a b=true
   ·rw [if_pos h];refine List.pairwise_cons.2 ⟨fun x hx=>?_,ihA (b::B) p1 hB (fun x hx y hy=>hc x (by simp [hx]) y hy)⟩
    rcases List.mem_merge.1 hx with hx|hx
    ·exact a1 x hx
    ·rcases List.mem_cons.1 hx with rfl|hx
     ·exact h
     ·exact bf_trans h (b1 x hx)
   ·rw [if_neg h]
    have hba:Bf b a:=by
     rcases hc a (by simp) b (by simp) with h1|h1
     ·exact absurd h1 h
     ·exact h1
    refine List.pairwise_cons.2 ⟨fun x hx=>?_,ihB hA p2 (fun x hx y hy=>hc x hx y (by simp [hy]))⟩
    rcases List.mem_merge.1 hx with hx|hx
    ·rcases List.mem_cons.1 hx with rfl|hx
     ·exact hba
     ·exact bf_trans hba (a1 x hx)
    ·exact b1 x hx
theorem few_pw{α:Type}{R:α->α->Prop}{l:List α}(h:l.length<2):l.Pairwise R:=by
 cases l with
 |nil=>exact List.Pairwise.nil
 |cons a l=>cases l with
  |nil=>exact List.pairwise_singleton _ _
  |cons b l=>simp at h;omega
theorem sortF_pw:∀ (n:Nat) (l:List It),l.length<=n+1->l.Pairwise (fun a b=>Bf a b∨Bf b a)->(sortF n l).Pairwise Bf:=by
 intro n
 induction n with
 |zero=>intro l hl _;rw [sortF_small (by omega)];exact few_pw (by omega)
 |succ n ih=>
  intro l hl hp
  by_cases h:l.length<2
  ·rw [sortF_small h];exact few_pw h
  ·rw [sortF_big h];have hp2:=hp;rw [<- List.take_append_drop (l.length / 2) l,List.pairwise_append] at hp2;refine merge_pw _ _ (ih _ (by rw [List.length_take];omega) hp2.1) (ih _ (by rw [List.length_drop];omega) hp2.2.1) (fun a ha b hb=>?_);exact hp2.2.2 a ((sortF_perm _ _).mem_iff.1 ha) b ((sortF_perm _ _).mem_iff.1 hb)
theorem good_total{x y:It}(hx:GoodI x)(hy:GoodI y)(h:¬OfD (labI y) y.r.ty y.dt x):Bf x y∨Bf y x:=by
 rw [bf_iff,bf_iff]
 by_cases hf:x.fo=y.fo
 ·have ho:OfO (labI y) x:=(good_fo hx hy).1 hf
  rcases Int.lt_trichotomy x.r.ty y.r.ty with h1|h1|h1
  ·exact .inl (.inr (.inl ⟨hf,h1⟩))
  ·have hd:Nm.ordL x.dt.data.toList y.dt.data.toList≠0:=fun e=>h ⟨⟨ho,h1⟩,Nm.ba_ext ((ordL_zero _ _).1 e)⟩
   have ha:=ordL_anti x.dt.data.toList y.dt.data.toList
   rcases Int.lt_or_le (Nm.ordL x.dt.data.toList y.dt.data.toList) 0 with h2|h2
   ·exact .inl (.inl ⟨hf,h1,h2⟩)
   ·exact .inr (.inl ⟨hf.symm,h1.symm,by omega⟩)
  ·exact .inr (.inr (.inl ⟨hf.symm,h1⟩))
 ·have h1:Nm.cmpS x.fo y.fo=Nm.cmpLs (labI x) (labI y):=by rw [hx.2.1,hy.2.1,cmpS_fold hx.1 hy.1]
  have h2:Nm.cmpS y.fo x.fo=Nm.cmpLs (labI y) (labI x):=by rw [hx.2.1,hy.2.1,cmpS_fold hy.1 hx.1]
  have h3:=cmpLs_anti (labI x) (labI y);have h4:Nm.cmpLs (labI x) (labI y)≠0:=fun e=>hf ((good_fo hx hy).2 e)
  rcases Int.lt_or_le (Nm.cmpLs (labI x) (labI y)) 0 with h5|h5
  ·exact .inl (.inr (.inr (by omega)))
  ·exact .inr (.inr (.inr (by omega)))
theorem ofD_self(x:It):OfD (labI x) x.r.ty x.dt x:=⟨⟨cmpLs_self _,rfl⟩,rfl⟩
theorem mem_take_get{α:Type}{l:List α}{i:Nat}{z:α}(h:z∈l.take i):∃ m,m<i∧l[m]? =some z:=by
 obtain⟨m,hm⟩:=List.getElem?_of_mem h;have hml:=(List.getElem?_eq_some_iff.1 hm).1;rw [List.length_take] at hml;rw [List.getElem?_take_of_lt (by omega)] at hm;exact⟨m,by omega,hm⟩
theorem rest_mem{l:List It}(hl:∀ y∈l,GoodI y)(x:It):x∈(twI l).filter (fun x=> !x.out)↔ ∃ i,First (OfD (labI x) x.r.ty x.dt) l i x:=by
 rw [List.mem_filter];constructor
 ·rintro⟨hx,ho⟩
  obtain⟨i,hi⟩:=List.getElem?_of_mem hx;have hil:=(List.getElem?_eq_some_iff.1 hi).1;rw [twI_len] at hil;have hy:l[i]? =some l[i]:=List.getElem?_eq_getElem hil;have hg:=hl l[i] (List.mem_of_getElem? hy);rw [twI_get hy] at hi;have e:=Option.some.inj hi
  have hd:dupI (l.take i) l[i]=false:=by
   rw [<- e] at ho;simp only [outI,Bool.not_eq_true',Bool.or_eq_false_iff] at ho;exact ho.2
  have e2:l[i]=x:=by rw [<- e,hd];simp [outI]
  rw [<- e2];refine⟨i,hy,ofD_self _,fun j z hj hz h=>?_⟩;have:=(dup_iff (fun z hz=>hl z (List.mem_of_mem_take hz)) hg).2 ⟨z,List.mem_of_getElem? (i:=j) (by rw [List.getElem?_take_of_lt hj];exact hz),h⟩;rw [hd] at this;cases this
 ·rintro⟨i,hF⟩
  have hg:=hl x hF.mem
  have hd:dupI (l.take i) x=false:=by
   cases hd:dupI (l.take i) x with
   |false=>rfl
   |true=>
    obtain⟨z,hz,h⟩:=(dup_iff (fun z hz=>hl z (List.mem_of_mem_take hz)) hg).1 hd;obtain⟨m,hm,hz⟩:=mem_take_get hz;exact absurd h (hF.2.2 m z hm hz)
  refine⟨List.mem_of_getElem? (i:=i) ?_,by rw [hg.2.2.2];rfl⟩;rw [twI_get hF.1,hd];simp [outI]
theorem rest_pw{l:List It}(hl:∀ y∈l,GoodI y):((twI l).filter (fun x=> !x.out)).Pairwise (fun a b=>Bf a b∨Bf b a):=by
 rw [List.pairwise_filter,List.pairwise_iff_getElem];intro i j hi hj hij ha hb;rw [twI_len] at hi hj;have gi:l[i]? =some l[i]:=List.getElem?_eq_getElem hi;have gj:l[j]? =some l[j]:=List.getElem?_eq_getElem hj;have ei:=(List.getElem?_eq_some_iff.1 (twI_get gi)).2;have ej:=(List.getElem?_eq_some_iff.1 (twI_get gj)).2;rw [ei] at ha ⊢;rw [ej] at hb ⊢;have hgi:=hl l[i] (List.mem_of_getElem? gi);have hgj:=hl l[j] (List.mem_of_getElem? gj);simp only [outI,Bool.not_eq_true',Bool.or_eq_false_iff] at ha hb;have di:outI (dupI (l.take i) l[i]) l[i]=l[i]:=by rw [ha.2];simp [outI]
 have dj:outI (dupI (l.take j) l[j]) l[j]=l[j]:=by rw [hb.2];simp [outI]
 rw [di,dj];refine good_total hgi hgj (fun h=>?_);have:=(dup_iff (fun z hz=>hl z (List.mem_of_mem_take hz)) hgj).2 ⟨l[i],List.mem_of_getElem? (i:=i) (by rw [List.getElem?_take_of_lt hij];exact gi),h⟩;rw [hb.2] at this;cases this
def ofDB(lab:List ByteArray)(ty:Int)(fd:ByteArray)(y:It):Bool:=decide (Nm.cmpLs (labI y) lab=0)&&decide (y.r.ty=ty)&&decide (y.dt=fd)
theorem ofDB_iff{lab:List ByteArray}{ty:Int}{fd:ByteArray}{y:It}:ofDB lab ty fd y=true↔OfD lab ty fd y:=by
 simp only [ofDB,Bool.and_eq_true,decide_eq_true_eq,OfD,OfS,OfO]
def it0:It:=⟨⟨ByteArray.empty,0,0,0,ByteArray.empty⟩,ByteArray.empty,ByteArray.empty,false⟩
def itA(l:List It)(o:GOw)(s:GSe)(p:ByteArray×ByteArray):It:=(l.find? (ofDB o.lab s.ty p.1)).getD it0
theorem itA_first{l:List It}{os:List GOw}(hT:TInv l os){o:GOw}{s:GSe}{p:ByteArray×ByteArray}(ho:o∈os)(hs:s∈o.ss)(hp:p∈s.da):∃ i,First (OfD o.lab s.ty p.1) l i (itA l o s p)∧p.2=(itA l o s p).r.da:=by
 obtain⟨i,x,hF,h2⟩:=hT.dat o ho s hs p hp;have:itA l o s p=x:=by rw [itA,hF.find (ofDB o.lab s.ty p.1) (fun y _=>ofDB_iff)];rfl
 rw [this];exact⟨i,hF,h2⟩
def grT(os:List GOw):List (GOw×GSe):=os.flatMap fun o=>o.ss.map fun s=>(o,s)
def itG(l:List It)(g:GOw×GSe):List It:=g.2.da.map (itA l g.1 g.2)
theorem grT_mem{os:List GOw}{g:GOw×GSe}:g∈grT os↔g.1∈os∧g.2∈g.1.ss:=by
 simp only [grT,List.mem_flatMap,List.mem_map];constructor
 ·rintro⟨o,ho,s,hs,rfl⟩;exact⟨ho,hs⟩
 ·rintro⟨h1,h2⟩;exact⟨g.1,h1,g.2,h2,rfl⟩
theorem itG_mem{l:List It}{os:List GOw}(hT:TInv l os){g:GOw×GSe}(hg:g∈grT os){x:It}(hx:x∈itG l g):∃ p∈g.2.da,x=itA l g.1 g.2 p∧x∈l∧OfD g.1.lab g.2.ty p.1 x:=by
 obtain⟨h1,h2⟩:=grT_mem.1 hg;simp only [itG,List.mem_map] at hx;obtain⟨p,hp,rfl⟩:=hx;obtain⟨i,hF,_⟩:=itA_first hT h1 h2 hp;exact⟨p,hp,rfl,hF.mem,hF.2.1⟩
theorem same_fo{x y:It}{lab:List ByteArray}(hx:GoodI x)(hy:GoodI y)(h1:OfO lab x)(h2:OfO lab y):x.fo=y.fo:=by
 rw [good_fo hx hy,cmpLs_eq_right (show Nm.cmpLs (labI y) lab=0 from h2)];exact h1
theorem gr_pw{l:List It}{os:List GOw}(hT:TInv l os)(hl:∀ y∈l,GoodI y):(grT os).Pairwise (fun g h=>∀ x∈itG l g,∀ y∈itG l h,Bf x y∧(x.fo≠y.fo∨x.r.ty≠y.r.ty)):=by
 rw [grT,List.pairwise_flatMap];constructor
 ·intro o ho;rw [List.pairwise_map];refine List.Pairwise.imp_of_mem ?_ (hT.sorted.2 o ho).1;intro s t hs ht hst x hx y hy;obtain⟨p,hp,_,hxl,hx1⟩:=itG_mem hT (grT_mem.2 ⟨ho,hs⟩) hx;obtain⟨q,hq,_,hyl,hy1⟩:=itG_mem hT (grT_mem.2 ⟨ho,ht⟩) hy;have hty:x.r.ty<y.r.ty:=by rw [hx1.1.2,hy1.1.2];exact hst
  exact⟨(bf_iff x y).2 (.inr (.inl ⟨same_fo (hl x hxl) (hl y hyl) hx1.1.1 hy1.1.1,hty⟩)),.inr (by omega)⟩
 ·refine List.Pairwise.imp_of_mem ?_ hT.sorted.1;intro o q ho hq hoq g hg h hh x hx y hy;simp only [List.mem_map] at hg hh;obtain⟨s,hs,rfl⟩:=hg;obtain⟨t,ht,rfl⟩:=hh;obtain⟨p,hp,_,hxl,hx1⟩:=itG_mem hT (grT_mem.2 ⟨ho,hs⟩) hx;obtain⟨p',hp',_,hyl,hy1⟩:=itG_mem hT (grT_mem.2 ⟨hq,ht⟩) hy;have hgx:=hl x hxl;have hgy:=hl y hyl
  have h1:Nm.cmpS x.fo y.fo<0:=by
   rw [hgx.2.1,hgy.2.1,cmpS_fold hgx.1 hgy.1,cmpLs_eq_left hx1.1.1,cmpLs_eq_right hy1.1.1];exact hoq
  refine⟨(bf_iff x y).2 (.inr (.inr h1)),.inl (fun e=>?_)⟩;rw [e,cmpS_self] at h1;omega
theorem fl_pw{l:List It}{os:List GOw}(hT:TInv l os)(hl:∀ y∈l,GoodI y):((grT os).flatMap (itG l)).Pairwise Bf:=by
 rw [List.pairwise_flatMap];refine⟨fun g hg=>?_,(gr_pw hT hl).imp (fun h x hx y hy=>(h x hx y hy).1)⟩;obtain⟨ho,hs⟩:=grT_mem.1 hg;rw [itG,List.pairwise_map];refine List.Pairwise.imp_of_mem ?_ ((hT.sorted.2 g.1 ho).2 g.2 hs);intro p q hp hq hpq;obtain⟨i,hF,_⟩:=itA_first hT ho hs hp;obtain⟨j,hG,_⟩:=itA_first hT ho hs hq;have h1:=hF.2.1;have h2:=hG.2.1;refine(bf_iff _ _).2 (.inl ⟨same_fo (hl _ hF.mem) (hl _ hG.mem) h1.1.1 h2.1.1,by rw [h1.1.2,h2.1.2],?_⟩);rw [h1.2,h2.2];exact hpq
theorem fl_mem{l:List It}{os:List GOw}(hT:TInv l os)(hl:∀ y∈l,GoodI y)(x:It):x∈(grT os).flatMap (itG l)↔ ∃ i,First (OfD (labI x) x.r.ty x.dt) l i x:=by
 rw [List.mem_flatMap];constructor
 ·rintro⟨g,hg,hx⟩
  obtain⟨p,hp,e,_,hD⟩:=itG_mem hT hg hx;obtain⟨ho,hs⟩:=grT_mem.1 hg;obtain⟨i,hF,_⟩:=itA_first hT ho hs hp;rw [<- e] at hF;refine⟨i,hF.congr (fun y=>?_)⟩;simp only [OfD,OfS,OfO];rw [hD.1.2,hD.2,cmpLs_eq_right (show Nm.cmpLs (labI x) g.1.lab=0 from hD.1.1)]
 ·rintro⟨i,hF⟩
  obtain⟨o,ho,h1,s,hs,h2,p,hp,h3⟩:=hT.cov x hF.mem;refine⟨(o,s),grT_mem.2 ⟨ho,hs⟩,?_⟩;rw [itG,List.mem_map];refine⟨p,hp,?_⟩;obtain⟨j,hG,_⟩:=itA_first hT ho hs hp
  have:First (OfD o.lab s.ty p.1) l i x:=hF.congr (fun y=>by
   simp only [OfD,OfS,OfO]
   rw [h2,h3,cmpLs_eq_right (show Nm.cmpLs (labI x) o.lab=0 from h1)])
  exact(hG.uniq this).2
theorem grp_group{l0 srt P gs Q:List It}{x0:It}(e:srt=P++((x0::gs)++Q))(hsame:∀ y∈gs,y.fo=x0.fo∧y.r.ty=x0.r.ty)(hlast:∀ z∈P,z.fo≠x0.fo∨z.r.ty≠x0.r.ty):
 ∀ m,m<=gs.length->grpK l0 srt (P.length+1+m)=grpK l0 srt P.length++[⟨ownI l0 x0.fo,x0.r.ty,x0.r.tt,x0.r.da::(gs.take m).map (·.r.da)⟩]:=by
 have hget:∀ k,k<(x0::gs).length->srt[P.length+k]? =(x0::gs)[k]? :=fun k hk=>by
  rw [e,List.getElem?_append_right (by omega),List.getElem?_append_left (by omega)];congr 1;omega
 intro m
 induction m with
 |zero=>
  intro _;have h0:srt[P.length]? =some x0:=hget 0 (by simp)
  have hn:newSet srt P.length x0=true:=by
   cases hP:P.length with
   |zero=>rfl
   |succ k=>
    have hk:k<P.length:=by omega
    have hz:srt[k]? =some P[k]:=by rw [e,List.getElem?_append_left hk,List.getElem?_eq_getElem hk]
    rw [newSet,hz]
    rcases hlast P[k] (List.getElem_mem hk) with h|h<;>simp [h]
  rw [Nat.add_zero,grpK_new h0 hn]
  rfl
 |succ m ih=>
  intro hm;have hy:gs[m]? =some gs[m]:=List.getElem?_eq_getElem (by omega)
  have h1:srt[P.length+1+m]? =some gs[m]:=by
   have:=hget (m+1) (by simp;omega);rw [show P.length+1+m=P.length+(m+1) by omega,this];simp [hy]
  have hk:∀ z,(x0::gs)[m]? =some z->z.fo=x0.fo∧z.r.ty=x0.r.ty:=fun z hz=>by
   rcases List.mem_cons.1 (List.mem_of_getElem? hz) with rfl|h
   ·exact⟨rfl,rfl⟩
   ·exact hsame z h
  obtain⟨z,hz⟩:∃ z,(x0::gs)[m]? =some z:=⟨_,List.getElem?_eq_getElem (by simp;omega)⟩;have hy2:=hsame gs[m] (List.getElem_mem (by omega))
  have hn:newSet srt (P.length+1+m) gs[m]=false:=by
   rw [show P.length+1+m=(P.length+m)+1 by omega,newSet,hget m (by simp;omega),hz];simp [(hk z hz).1,(hk z hz).2,hy2.1,hy2.2]
  have:=grpK_old h1 hn (ih (by omega));rw [show P.length+1+(m+1)=P.length+1+m+1 by omega,this];rw [List.take_succ_eq_append_getElem (show m<gs.length by omega),List.map_append];rfl
theorem grp_all{γ:Type}{l0:List It}(G:List γ)(f:γ->List It)(toS:γ->Sz)(hne:∀ g∈G,f g≠[])(hsame:∀ g∈G,∀ x∈f g,∀ y∈f g,y.fo=x.fo∧y.r.ty=x.r.ty)
 (hp:G.Pairwise (fun g h=>∀ x∈f g,∀ y∈f h,x.fo≠y.fo∨x.r.ty≠y.r.ty)) (hS:∀ g∈G,∀ x0 gs,f g=x0::gs->toS g=⟨ownI l0 x0.fo,x0.r.ty,x0.r.tt,(f g).map (·.r.da)⟩):
 ∀ k,k<=G.length->grpK l0 (G.flatMap f) ((G.take k).flatMap f).length=(G.take k).map toS:=by
 intro k
 induction k with
 |zero=>intro _;rfl
 |succ k ih=>
  intro hk;have hg:k<G.length:=by omega
  have hm:G[k]∈G:=List.getElem_mem hg
  obtain⟨x0,gs,hf⟩:∃ x0 gs,f G[k]=x0::gs:=by
   cases h:f G[k] with
   |nil=>exact absurd h (hne _ hm)
   |cons x0 gs=>exact⟨x0,gs,rfl⟩
  have eG:G=G.take k++(G[k]::G.drop (k+1)):=by rw [<- List.drop_eq_getElem_cons hg,List.take_append_drop]
  have e1:G.flatMap f=(G.take k).flatMap f++((x0::gs)++(G.drop (k+1)).flatMap f):=by
   conv=>lhs;rw [eG]
   rw [List.flatMap_append,List.flatMap_cons,hf]
  have e2:G.take (k+1)=G.take k++[G[k]]:=List.take_succ_eq_append_getElem hg;have hx0:x0∈f G[k]:=by rw [hf];simp
  have hh:=grp_group (l0:=l0) e1 (fun y hy=>hsame _ hm x0 hx0 y (by rw [hf];simp [hy])) (fun z hz=>by
   obtain⟨g,hg2,hz2⟩:=List.mem_flatMap.1 hz;obtain⟨j,hj,hgj⟩:=mem_take_get hg2;have hjl:=List.getElem?_eq_some_iff.1 hgj;have h9:=List.pairwise_iff_getElem.1 hp j k hjl.1 hg hj;rw [hjl.2] at h9
   exact h9 z hz2 x0 hx0) gs.length (Nat.le_refl _)
  have e3:((G.take (k+1)).flatMap f).length=((G.take k).flatMap f).length+1+gs.length:=by
   rw [e2,List.flatMap_append,List.length_append,List.flatMap_cons,hf];simp
   omega
  rw [e3,hh,ih (by omega),e2,List.map_append,List.map_cons,List.map_nil,hS _ hm x0 gs hf,hf];simp
def szT(g:GOw×GSe):Sz:=⟨g.1.nm,g.2.ty,g.2.tt,g.2.da.map (·.2)⟩
def zoneT(os:List GOw):List Sz:=(grT os).map szT
theorem zone_eq{list:List Rr}{os:List GOw}(hT:TInv (list.map itemOf) os)(hl:∀ y∈list.map itemOf,GoodI y)(hmix:∀ (i:Nat) (x:It),(list.map itemOf)[i]? =some x->mixI ((list.map itemOf).take i) x=false):bldZ list=zoneT os:=by
 obtain⟨l,hle⟩:∃ l,l=list.map itemOf:=⟨_,rfl⟩;have e0:restOf list=(twI l).filter (fun x=> !x.out):=by rw [hle];rfl
 have e9:itsOf list=twI l:=by rw [hle];rfl
 rw [<- hle] at hT hl hmix
 have e1:srtOf list=(grT os).flatMap (itG l):=by
  refine sorted_eq (R:=Bf) bf_irrefl (fun _ _ _=>bf_trans) _ _ ?_ (fl_pw hT hl) (fun x=>?_)
  ·rw [srtOf,sortI,e0];exact sortF_pw _ _ (by omega) (rest_pw hl)
  ·rw [srtOf,sortI,e0,(sortF_perm _ _).mem_iff,rest_mem hl,fl_mem hT hl]
 rw [bldZ,e9,e1];have h:=grp_all (l0:=twI l) (grT os) (itG l) szT (fun g hg=>?_) (fun g hg x hx y hy=>?_) ((gr_pw hT hl).imp (fun h x hx y hy=>(h x hx y hy).2)) (fun g hg x0 gs e=>?_) (grT os).length (Nat.le_refl _)
 ·rw [List.take_length] at h;exact h
 ·obtain⟨ho,hs⟩:=grT_mem.1 hg;obtain⟨y,hF,_⟩:=hT.set g.1 ho g.2 hs;obtain⟨q,hq,h1,t,ht,h2,p,hp,h3⟩:=hT.cov y hF.mem;have e2:g.1=q:=hT.one ho hq (by rw [<- cmpLs_eq_left (show Nm.cmpLs (labI y) g.1.lab=0 from hF.2.1.1)];exact h1);have e3:g.2=t:=(hT.sorted.2 g.1 ho).1.one hs (by rw [e2];exact ht) (by rw [h2,hF.2.1.2]);rw [itG,e3];intro e;rw [List.map_eq_nil_iff] at e;rw [e] at hp;cases hp
 ·obtain⟨p,_,_,hxl,hx1⟩:=itG_mem hT hg hx;obtain⟨q,_,_,hyl,hy1⟩:=itG_mem hT hg hy;exact⟨same_fo (hl y hyl) (hl x hxl) hy1.1.1 hx1.1.1,by rw [hy1.1.2,hx1.1.2]⟩
 ·obtain⟨ho,hs⟩:=grT_mem.1 hg;have hx0:x0∈itG l g:=by rw [e];simp
  obtain⟨p,hp,ex,hxl,hx1⟩:=itG_mem hT hg hx0;have hgx:=hl x0 hxl
  have eo:ownI (twI l) x0.fo=g.1.nm:=by
   obtain⟨i,y,hF,h2,_⟩:=hT.own g.1 ho
   have hG:First (fun z:It=>z.fo=x0.fo) (twI l) i (outI (dupI (l.take i) y) y):=by
    refine⟨twI_get hF.1,show y.fo=x0.fo from same_fo (hl y hF.mem) hgx hF.2.1 hx1.1.1,fun j z hj hz hzf=>?_⟩;have hjl:=(List.getElem?_eq_some_iff.1 hz).1;rw [twI_len] at hjl;have hy:l[j]? =some l[j]:=List.getElem?_eq_getElem hjl;rw [twI_get hy] at hz;obtain rfl:=Option.some.inj hz;have hgz:=hl l[j] (List.mem_of_getElem? hy);refine hF.2.2 j l[j] hj hy ?_;have h5:Nm.cmpLs (labI l[j]) (labI x0)=0:=(good_fo hgz hgx).1 hzf;rw [OfO,cmpLs_eq_left h5];exact hx1.1.1
   rw [ownI,hG.find (fun z=>decide (z.fo=x0.fo)) (fun z _=>by simp),h2];rfl
  have et:x0.r.tt=g.2.tt:=by
   obtain⟨y,hF,h2⟩:=hT.set g.1 ho g.2 hs;obtain⟨j,hG,_⟩:=itA_first hT ho hs hp;rw [<- ex] at hG;have hm:=hmix j x0 hG.1
   rcases Nat.lt_trichotomy g.2.fi j with h3|h3|h3
   ·have hgy:=hl y hF.mem;have hk:kinB x0 y=true:=(kin_of hgx hgy).2 ⟨by rw [OfO,cmpLs_eq_right (show Nm.cmpLs (labI x0) g.1.lab=0 from hx1.1.1)];exact hF.2.1.1,by rw [hF.2.1.2,hx1.1.2]⟩
    have hf:=find_take_at (p:=kinB x0) h3 hF.1 hk (fun m z hm hz=>by
     cases hb:kinB x0 z with
     |false=>rfl
     |true=>
      exfalso
      have hgz:=hl z (List.mem_of_getElem? hz);have h6:=(kin_of hgx hgz).1 hb
      exact hF.2.2 m z hm hz ⟨by rw [OfO,<- cmpLs_eq_right (show Nm.cmpLs (labI x0) g.1.lab=0 from hx1.1.1)];exact h6.1,by rw [h6.2,hx1.1.2]⟩)
    rw [mixI,hf] at hm;simp at hm;rw [h2,hm]
   ·rw [h3] at hF;have:=hF.1.symm.trans hG.1;rw [h2,Option.some.inj this]
   ·exact absurd hx1.1 (hF.2.2 j x0 h3 hG.1)
  rw [szT,eo,hx1.1.2,et];congr 1;rw [itG,List.map_map];refine(List.map_congr_left (fun q hq=>?_)).symm;obtain⟨j,_,h⟩:=itA_first hT ho hs hq;exact h.symm
end Go.Proofs.YtmdinnjimioffaaGreat
namespace Go.Proofs.YtmdinnjimioffaaGreat
open Go.RowKit Go.Shelf
set_option linter.unusedVariables false
attribute [local go_sem] Oper.semAt_some
def Zst(B:Nat)(apex:ByteArray)(Zb Rb:Nat)(W:World)(ss:List Sz):Prop:=
 ∃ v ps,Blk W Zb #[.string apex,v] 28∧Blk W Rb #[.string ⟨#[]⟩,.slice none 0 0] 28∧ps.map (·.1)=ss∧ZOwn W B v ps
theorem own_nonc{W:World}{B e s n r:Nat}{v:Value}{xs:List Value}(h:W.ownsRow B e s v n xs)(hr:∃ o:Obj,W.heap[r]? =some o∧o.isCells=false):v.ownBlock≠some r:=by
 intro he
 rcases h.2 with⟨rfl,_⟩|⟨g,cap,cur,rfl,_,hh,_⟩
 ·cases he
 ·simp only [Value.ownBlock,Option.some.injEq] at he;subst he;obtain⟨o,h1,h2⟩:=hr;rw [hh] at h1;cases h1
  cases h2
theorem blk_nonc{W:World}{b r:Nat}{cs:Array Value}{T:TypeId}(h:Blk W b cs T)(hr:∃ o:Obj,W.heap[r]? =some o∧o.isCells=false):b≠r:=by
 intro he;subst he;obtain⟨o,h1,h2⟩:=hr;rw [Blk] at h;rw [h] at h1;cases h1
 cases h2
theorem grown_setC(W:World)(b i:Nat)(v:Value):W.grownBy (W.setCell ⟨b,i,none⟩ v) (some b):=
 ⟨rfl,rfl,rfl,(KeepsWalks.setCell W _ v).size,fun k _ hk=>Below.heap_setCell _ _ _ k (fun e=>hk (by rw [e]))⟩
theorem zst_own{β:Type}(B:Nat)(apex:ByteArray)(Zb Rb:Nat)(f:β->List Sz):Own (fun s W=>Zst B apex Zb Rb W (f s)):=by
 rintro s X Y row ⟨v,ps,h1,h2,h3,h4⟩ hg hrow;refine⟨v,ps,blk_grown h1 hg (fun e=>blk_nonc h1 (hrow Zb e) rfl),blk_grown h2 hg (fun e=>blk_nonc h2 (hrow Rb e) rfl),h3,h4.beside hg (fun g e=>own_nonc h4.outer (hrow g e)) (fun g e p hp=>?_)⟩;obtain⟨i,hi⟩:=List.getElem?_of_mem hp;exact own_nonc (h4.inner i p hi) (hrow g e)
theorem zst_below{B:Nat}{apex:ByteArray}{Zb Rb:Nat}{W W':World}{ss:List Sz}(h:Zst B apex Zb Rb W ss)(hb:Below W.heap.size W W'):Zst B apex Zb Rb W' ss:=by
 obtain⟨v,ps,h1,h2,h3,h4⟩:=h;exact⟨v,ps,blk_below h1 hb,blk_below h2 hb,h3,h4.below hb⟩
theorem keeps_below{W W':World}(h:Below W.heap.size W W'):KeepsOthers W W':=⟨h.size,fun k o hk _=>(h.block k (Array.getElem?_eq_some_iff.1 hk).1).trans hk⟩
theorem zst_more{B:Nat}{apex:ByteArray}{Zb Rb:Nat}{W w1:World}{tmp:Obj}{v v' u:Value}{ps:List Zp}{s:Sz}(h1:Blk W Zb #[.string apex,v] 28)(h2:Blk W Rb #[.string ⟨#[]⟩,.slice none 0 0] 28)(h4:ZOwn W B v ps)(hB:B<=Zb)(hBW:B<=W.heap.size)(hne:Zb≠Rb)
 (hu:W.ownsRow B 9 1 u s.da.length (s.da.map Value.string)) (ha:∀ p∈ps,∀ g,p.2.ownBlock=some g->u.ownBlock≠some g)
 (ho:w1.ownsRow B 65 4 v' (ps.length+1) (zpVs ps++zpV (s,u))) (hg:(W.alloc tmp).grownBy w1 v.ownBlock):
 Blk w1 Zb #[.string apex,v] 28∧Zst B apex Zb Rb (w1.setCell ⟨Zb,1,none⟩ v') (ps.map (·.1)++[s])∧KeepsOthers W (w1.setCell ⟨Zb,1,none⟩ v')∧Below B W (w1.setCell ⟨Zb,1,none⟩ v')∧∀ b cs T,Blk W b cs T->65≠T->b≠Zb->Blk (w1.setCell ⟨Zb,1,none⟩ v') b cs T:=by
 have ha1:Below W.heap.size W (W.alloc tmp):=(Below.refl _ W).alloc (Nat.le_refl _) tmp;have h1':=blk_below h1 ha1;have h2':=blk_below h2 ha1;have h4':=h4.below ha1;have hu':=own_below hu ha1;have k1:Blk w1 Zb #[.string apex,v] 28:=blk_grown h1' hg (fun e=>own_nb h4'.outer h1' (by decide) e);have k2:Blk w1 Rb #[.string ⟨#[]⟩,.slice none 0 0] 28:=blk_grown h2' hg (fun e=>own_nb h4'.outer h2' (by decide) e);have z:=h4'.snoc hu' ha ho hg;have e1:=blk_set k1 1 v';simp only [List.setIfInBounds_toArray,List.set_cons_zero,List.set_cons_succ] at e1;have hgs:=grown_setC w1 Zb 1 v';refine⟨k1,⟨v',ps++[(s,u)],e1,blk_grown k2 hgs (fun e=>by cases e;exact hne rfl),by simp,?_⟩,?_,?_,fun b cs T hb hT hbz=>?_⟩
 ·refine z.beside hgs (fun g e=>by cases e;exact own_nb z.outer k1 (by decide)) (fun g e p hp=>?_);cases e
  obtain⟨i,hi⟩:=List.getElem?_of_mem hp;exact own_nb (z.inner i p hi) k1 (by decide)
 ·refine((KeepsOthers.alloc W tmp).trans (KeepsOthers.of_grownBy hg fun j o ej hj=>?_)).trans (KeepsOthers.of_grownBy hgs fun j o ej hj=>?_)
  ·cases ho:o.isCells with
   |true=>rfl
   |false=>exact absurd ej (own_nonc h4'.outer ⟨o,hj,ho⟩)
  ·cases ho:o.isCells with
   |true=>rfl
   |false=>cases ej;exact absurd rfl (blk_nonc k1 ⟨o,hj,ho⟩)
 ·refine((((Below.refl B W).alloc hBW tmp).grown hg (by simp;omega) fun j ej=>?_)).setCell (p:=⟨Zb,1,none⟩) hB v';exact(h4'.outer.lt j ej).1
 ·exact blk_grown (blk_grown (blk_below hb ha1) hg (fun e=>own_nb h4'.outer (blk_below hb ha1) hT e)) hgs (fun e=>by cases e;exact hbz rfl)
def slA:Value->Option Addr
 |.slice a _ _=>a
 |_=>none
def slN:Value->Nat
 |.slice _ n _=>n
 |_=>0
def slC:Value->Nat
 |.slice _ _ c=>c
 |_=>0
theorem sl_eq{w:World}{v:Value}{l:List ByteArray}(h:Nm.SRow w v l):v=.slice (slA v) (slN v) (slC v):=by
 obtain⟨a,cap,rfl,_⟩:=h;rfl
theorem zoneT_snoc(os:List GOw)(o:GOw):zoneT (os++[o])=zoneT os++o.ss.map fun s=>szT (o,s):=by
 simp [zoneT,grT]
theorem zoneT_len:∀ (os:List GOw),(∀ o∈os,o.ss.length<=400000)->(zoneT os).length<=os.length*400000:=by
 refine snoc_ind ?_ ?_
 ·intro _;simp [zoneT,grT]
 ·intro l o ih h;rw [zoneT_snoc];have h1:=ih (fun q hq=>h q (by simp [hq]));have h2:=h o (by simp);simp only [List.length_append,List.length_map,List.length_singleton];omega
set_option maxRecDepth 100000 in
set_option maxHeartbeats 4000000 in
theorem zone_in(F:Fence)(n:Nat)(h1:F.fn 29)(h2:F.fn 64)(h3:F.fn 65)(h4:F.fn 99)(h5:F.fn 66)(h6:F.fn 100)(h7:F.fn 67)(hro:F.round=none)(hn:9<=n)
 (bb oo th:Nat) (rv:Value) (os:List GOw) (B:Nat) (apex:ByteArray) (w:World) (h:TrAt w B th rv os) (hd:TrS os) (hl:os.length<=400000) (hLab:LabAt w (fpT th rv os) os) (hc:w.cell? ⟨bb,oo+1,none⟩=some (ptr th))
 (hcl:∀ m W,CallsIn F m Tryz.prog 64 #[.string apex] W fun e w'=>e=.returned (.string apex)∧Below W.heap.size W w')
 (hset:∀ (o:GOw) (s:GSe) (m:Nat) (W:World),o∈os->s∈o.ss->Below w.heap.size w W->CallsIn F m Tryz.prog 67 #[ptr o.blk,.int .i64 s.ty] W fun e w'=>∃ v,e=.returned (.tuple #[.agg #[.string o.nm,.int .i64 s.ty,.int .i64 s.tt,v],.bool true])∧w'.ownsRow W.heap.size 9 1 v s.da.length (s.da.map fun p=>.string p.2)∧Below W.heap.size W w'):
 CallsIn F n Tryz.prog 29 #[.pointer (some ⟨bb,oo,none⟩),.string apex] w fun e W'=>∃ v ps,e=.returned (.agg #[.string apex,v])∧ps.map (·.1)=zoneT os∧ZOwn W' w.heap.size v ps∧Below w.heap.size w W':=by
 obtain⟨i0,hi,hz0,hz1,hz2⟩:=info_parts Tryz.infoSet;refine callsIn_of_wp_marks Tryz.func29 rfl h1 ?_ hro;simp only [Tryz.ntmps29,List.size_toArray,List.length_cons,List.length_nil,Nat.reduceAdd,Nat.reduceSub,Array.replicate_succ,Array.replicate_zero,List.push_toArray,List.append_toArray,List.nil_append,List.cons_append];have kR:=blk_new w #[.string ⟨#[]⟩,.slice none 0 0] 28;have b0:=(Below.refl w.heap.size w).alloc (Nat.le_refl _) (.cells #[.string ⟨#[]⟩,.slice none 0 0] 28);have hth:th<w.heap.size:=blk_lt h.head;have n1:1<=n:=by omega
 have hbb:bb<w.heap.size:=World.block_lt_of_cell? w _ hc;unfold ptr at hc hset;have HX:=Nm.hide (And.intro h (And.intro hd (And.intro hLab hset)));clear h hd hLab hset
 gi_wp2_with (
  gi_at_call 64
  refine(hcl _ _).mono ?_;rintro e w1 ⟨rfl,b1⟩;have b1':=Nm.below_two b0 b1;have hw1s:Hid (w.heap.size+1<=w1.heap.size):=by have:=b1.size;rw [World.size_alloc] at this;exact this
  have kR1:=blk_below kR b1;have c1:=(b1'.cell (p:=⟨bb,oo+1,none⟩) hbb).trans hc;clear kR b0 b1;have kR2:=blk_alloc kR1 (.cells #[.string apex,.slice none 0 0] 28);have kZ2:=blk_new w1 #[.string apex,.slice none 0 0] 28;have b2:=b1'.alloc b1'.size (.cells #[.string apex,.slice none 0 0] 28)
  have c2:=(b2.cell (p:=⟨bb,oo+1,none⟩) hbb).trans hc)
 refine(allL_in F (n-1) h3 hro _ _).mono ?_;rintro e w3 ⟨rfl,rfl⟩
 gi_wp2
 have kR3:=blk_alloc kR2 (.cells #[.pointer (some ⟨th,0,none⟩)] 68);have kZ3:=blk_alloc kZ2 (.cells #[.pointer (some ⟨th,0,none⟩)] 68);have kT3:=blk_new (w1.alloc (.cells #[.string apex,.slice none 0 0] 28)) #[.pointer (some ⟨th,0,none⟩)] 68;have b3:=b2.alloc b2.size (.cells #[.pointer (some ⟨th,0,none⟩)] 68);rw [World.size_alloc] at kT3;obtain⟨W0,hW0⟩:∃ W0,(w1.alloc (.cells #[.string apex,.slice none 0 0] 28)).alloc (.cells #[.pointer (some ⟨th,0,none⟩)] 68)=W0:=⟨_,rfl⟩;have hsz:W0.heap.size=w1.heap.size+2:=by rw [<- hW0];simp
 have hw1:=b1'.size;rw [hW0] at kR3 kZ3 kT3 b3 ⊢;clear hW0 kR2 kZ2 b2 c2 c1 kR1;have hza:os.attach.length=os.length:=List.length_attach
 have hR0:RwsL (fun x:{o:GOw // o∈os}=>slA x.1.lv) (fun x=>slN x.1.lv) (fun x=>slC x.1.lv) (fun x=>⟨x.1.blk,0,none⟩) w.heap.size w rv os.attach:=by
  refine rwsL_own _ _ _ _ (B:=B) (e:=147) _ ?_;have hr:=HX.out.1.rows
  have e1:(os.attach.map fun x:{o:GOw // o∈os}=>((Value.slice (slA x.1.lv) (slN x.1.lv) (slC x.1.lv)),(Value.pointer (some (⟨x.1.blk,0,none⟩:Addr)))))=owRs os:=by
   rw [owRs]
   conv=>rhs;rw [<- List.attach_map_subtype_val os]
   rw [List.map_map];refine List.map_congr_left (fun x _=>?_);simp only [Function.comp,ptr];rw [<- sl_eq (HX.out.2.2.1 x.1 x.2).row]
  rw [e1];rw [show(owRs os).length=os.attach.length by simp [owRs]] at hr;exact hr
 have kh3:W0.cell? ⟨th,1,none⟩=some rv:=(b3.cell (p:=⟨th,1,none⟩) hth).trans ((blk_cell HX.out.1.head 1).trans rfl)
 refine wpIn_rangeFunc_ownH hro n1 (gf:=99) (lb:=#[.pointer (some ⟨w1.heap.size+1,0,none⟩)]) rfl h4 (enters_of Tryz.func99 (by kernel_rfl) rfl)
  (allStopsL (fun x:{o:GOw // o∈os}=>slA x.1.lv) (fun x=>slN x.1.lv) (fun x=>slC x.1.lv) (fun x=>⟨x.1.blk,0,none⟩) F (n-1) h4 hro (by omega) (w1.heap.size+1) th w.heap.size rv os.attach (by omega) W0 (by omega) hth (by omega) ((blk_cell kT3 0).trans rfl) kh3 (hR0.below b3)) belowK_t (belowK_b (by omega)) (Below.refl _ _) (fun _=>rfl)
  (fun pre W=>Zst w.heap.size apex w1.heap.size w.heap.size W (zoneT (pre.map (·.1)))∧(Below w.heap.size w W∧w1.heap.size+2<=W.heap.size))
  (fun _ _ _=>False)
  (OwnFrom.and (Own.from (zst_own _ _ _ _ (fun pre:List {o:GOw // o∈os}=>zoneT (pre.map (·.1)))) _) (OwnFrom.and (ownFrom_below (Nat.le_refl _) (by omega)) (fun _ _ _ _ hs hg _=>Nat.le_trans hs hg.size)))
  (fun _ _ _ _ _ hs _ _=>hs)
  ⟨⟨.slice none 0 0,[],kZ3,kR3,rfl,ZOwn.nil _ _⟩,b3,by omega⟩
  (fun x a' W=>∃ Bx,w1.heap.size+1<Bx∧Blk W Bx #[.pointer (some ⟨x.1.blk,0,none⟩)] 103∧a'={tmps:=#[.pointer (some ⟨bb,oo,none⟩),.string apex,undef,undef,.pointer (some ⟨w.heap.size,0,none⟩),.pointer (some ⟨w1.heap.size,0,none⟩),undef,.pointer (some ⟨Bx,0,none⟩),undef,undef,undef,.string apex,.string apex,.agg #[.string apex,.slice none 0 0],.pointer (some ⟨bb,oo,none⟩),.pointer (some ⟨bb,oo,none⟩),.pointer (some ⟨bb,oo+1,none⟩),.pointer (some ⟨th,0,none⟩),.func (.func 99) #[] #[.pointer (some ⟨w1.heap.size+1,0,none⟩)],.slice (slA x.1.lv) (slN x.1.lv) (slC x.1.lv),.pointer (some ⟨x.1.blk,0,none⟩),undef,undef,undef,undef,undef,undef,undef,undef,undef,undef,undef,undef,undef,undef,undef,undef,undef,undef,undef,undef],defers:=[]})
  (fun x a' _ X Y row hs hg hr=>by obtain⟨Bx,h1,h2,h3⟩:=hs;exact⟨Bx,h1,blk_grown h2 hg (fun e=>blk_nonc h2 (hr Bx e).2 rfl),h3⟩)
  ?assign ?body ?done ?stop
 case assign=>
  rintro l pre x W K ⟨hz1,hB1,hs1⟩ hK;have HS:=Nm.hide hs1;clear hs1
  gi_wp2
  exact hK _ _ ((KeepsOthers.alloc _ _).from _) ((Below.refl _ W).alloc hB1.size _) ⟨zst_below hz1 ((Below.refl _ W).alloc (Nat.le_refl _) _),hB1.alloc hB1.size _,by have:=HS.out;simp;omega⟩ ⟨W.heap.size,by have:=HS.out;omega,blk_new W _ _,rfl⟩
 case body=>
  rintro l pre x a' W hl2 ⟨r,hr⟩ ⟨hzs,hB1,hs1⟩ ⟨Bx,hBx,bX,rfl⟩ hlt;have ow:=HX.out.1.owners x.1 x.2;have hxd:=HX.out.2.1.2 x.1 x.2;have cX:=(blk_cell bX 0).trans rfl;have cN:W.cell? ⟨x.1.blk,2,none⟩=some (.pointer (some ⟨x.1.hd,0,none⟩)):=(hB1.cell (p:=⟨x.1.blk,2,none⟩) (blk_lt ow.node)).trans ((blk_cell ow.node 2).trans rfl);have n2:1<=n-1-1:=by omega
  have HS:=Nm.hide (And.intro hs1 (And.intro hl2 (And.intro hlt hBx)));clear hs1 hl2 hlt hBx
  gi_wp2_with (gi_at_call 66;refine(CallsIn.inRound l (allI_in F (n-1-1-1) h5 hro _ _)).mono ?_;rintro e w' ⟨rfl,rfl⟩)
  have hsW:=hB1.size;have hrl:=(Array.getElem?_eq_some_iff.1 hr).1;have bA:=(Below.refl w.heap.size W).alloc hsW (.cells #[.pointer (some ⟨x.1.hd,0,none⟩)] 106);have bA':=(Below.refl W.heap.size W).alloc (Nat.le_refl _) (.cells #[.pointer (some ⟨x.1.hd,0,none⟩)] 106);have kN:=blk_new W #[.pointer (some ⟨x.1.hd,0,none⟩)] 106;have hr':(W.alloc (.cells #[.pointer (some ⟨x.1.hd,0,none⟩)] 106)).heap[l]? =some (.loop r):=(Below.heap_alloc W _ l hrl).trans hr;have hzb:x.1.ss.attach.length=x.1.ss.length:=List.length_attach
  have hR1:RwsI (fun s:{s:GSe // s∈x.1.ss}=>s.1.ty) (fun s=>⟨s.1.blk,0,none⟩) w.heap.size w x.1.rv x.1.ss.attach:=by
   refine rwsI_own _ _ (B:=B) (e:=154) _ ?_;have hr:=ow.rows
   have e1:(x.1.ss.attach.map fun s:{s:GSe // s∈x.1.ss}=>((Value.int .i64 s.1.ty),(Value.pointer (some (⟨s.1.blk,0,none⟩:Addr)))))=seRs x.1.ss:=by
    rw [seRs]
    conv=>rhs;rw [<- List.attach_map_subtype_val x.1.ss]
    rw [List.map_map];rfl
   rw [e1];rw [show(seRs x.1.ss).length=x.1.ss.attach.length by simp [seRs]] at hr;exact hr
  have hB2:=hB1.trans bA;have khI:(W.alloc (.cells #[.pointer (some ⟨x.1.hd,0,none⟩)] 106)).cell? ⟨x.1.hd,1,none⟩=some x.1.rv:=(hB2.cell (p:=⟨x.1.hd,1,none⟩) (blk_lt ow.head)).trans ((blk_cell ow.head 1).trans rfl)
  have HL:(zoneT (pre.map (·.1))).length<=160000000000:=by
   have h1:=zoneT_len (pre.map (·.1)) (fun o ho=>by
    obtain⟨y,_,rfl⟩:=List.mem_map.1 ho
    exact(HX.out.2.1.2 y.1 y.2).2.1)
   have:=HS.out.2.2.1;rw [List.length_map] at h1;omega
  refine wpIn_rangeFunc_ownN (l₀:=l) (r₀:=r) rfl hr' n2 (gf:=100) (lb:=#[.pointer (some ⟨W.heap.size,0,none⟩)]) rfl h6 (enters_of Tryz.func100 (by kernel_rfl) rfl)
   ((allStopsI (fun s:{s:GSe // s∈x.1.ss}=>s.1.ty) (fun s=>⟨s.1.blk,0,none⟩) F (n-1-1-1) h6 hro (by omega) W.heap.size x.1.hd w.heap.size x.1.rv x.1.ss.attach (by have:=hxd.2.1;omega) _ (by simp) (blk_lt ow.head) (by simp;omega) ((blk_cell kN 0).trans rfl) khI (hR1.below hB2)).inRound l) belowK_t (belowK_b (by simp;omega)) (Below.refl _ _) (fun _=>rfl)
   (fun pre' W'=>(Zst w.heap.size apex w1.heap.size w.heap.size W' (zoneT (pre.map (·.1))++pre'.map fun s=>szT (x.1,s.1))∧Blk W' Bx #[.pointer (some ⟨x.1.blk,0,none⟩)] 103)∧(Below w.heap.size W W'∧KeepsFrom W0.heap.size W W'))
   (fun _ _ _=>False)
   (OwnFrom.and (OwnFrom.and (Own.from (zst_own _ _ _ _ (fun pre':List {s:GSe // s∈x.1.ss}=>zoneT (pre.map (·.1))++pre'.map fun s=>szT (x.1,s.1))) _) (fun _ X Y row hs hg hr=>blk_grown hs hg (fun e=>blk_nonc hs (hr Bx e).2 rfl))) (OwnFrom.and (ownFrom_below hsW (by simp;omega)) (ownFrom_keepsFrom (by simp))))
   (fun _ _ _ _ _ hs _ _=>hs)
   ⟨⟨by simpa using zst_below hzs bA',blk_below bX bA'⟩,bA,(KeepsOthers.alloc _ _).from _⟩
   (fun s a'' _=>a''={tmps:=#[.pointer (some ⟨bb,oo,none⟩),.string apex,undef,undef,.pointer (some ⟨w.heap.size,0,none⟩),.pointer (some ⟨w1.heap.size,0,none⟩),undef,.pointer (some ⟨Bx,0,none⟩),.int .i64 s.1.ty,undef,undef,.string apex,.string apex,.agg #[.string apex,.slice none 0 0],.pointer (some ⟨bb,oo,none⟩),.pointer (some ⟨bb,oo,none⟩),.pointer (some ⟨bb,oo+1,none⟩),.pointer (some ⟨th,0,none⟩),.func (.func 99) #[] #[.pointer (some ⟨w1.heap.size+1,0,none⟩)],.slice (slA x.1.lv) (slN x.1.lv) (slC x.1.lv),.pointer (some ⟨x.1.blk,0,none⟩),.pointer (some ⟨x.1.blk,0,none⟩),.pointer (some ⟨x.1.blk,0,none⟩),.pointer (some ⟨x.1.blk,2,none⟩),.pointer (some ⟨x.1.hd,0,none⟩),.func (.func 100) #[] #[.pointer (some ⟨W.heap.size,0,none⟩)],.int .i64 s.1.ty,.pointer (some ⟨s.1.blk,0,none⟩),undef,undef,undef,undef,undef,undef,undef,undef,undef,undef,undef,undef,undef],defers:=[]})
   (fun _ _ _ _ _ _ hs _ _=>hs)
   ?assign2 ?body2 ?done2 ?stop2
  case assign2=>
   rintro l2 pre' y W' K hi hK
   gi_wp2
   exact hK _ _ (KeepsFrom.refl _ _) (Below.refl _ _) hi rfl
  case body2=>
   rintro l2 pre' s a'' W' _ _ ⟨⟨hz2,bX2⟩,hBW,hKF⟩ rfl hlt2;obtain⟨v,ps,k1,k2,e3,z4⟩:=hz2;obtain⟨va,vc,rfl⟩:=own_sl z4.outer;have hB3:=hB1.trans hBW;have cX2:=(blk_cell bX2 0).trans rfl;have hst:=HX.out.2.2.2 x.1 s.1 (n-1-1-1-1-1) W' x.2 s.2 hB3
   have hps:ps.length<=160000400000:=by
    have h1:=congrArg List.length e3;simp only [List.length_map,List.length_append] at h1;have:=hxd.2.1;omega
   have HQ:=Nm.hide (And.intro e3 (And.intro hBW (And.intro hKF (And.intro hB3 (And.intro HL hlt2)))));have hsW':=hB3.size;clear e3 hBW hKF hB3 HL hlt2 cX cN hzs bX hr hr' hrl bA bA' kN hR1 hB2 khI hzb hxd ow hB1 hsW;have n3:1<=n-1-1-1-1:=by omega
   gi_wp2_with (first
    |(gi_at_call 67
      refine(CallsIn.inRound l2 (CallsIn.inRound l hst)).mono ?_;rintro e w4 ⟨u,rfl,hu,b4⟩;obtain⟨ua,uc,rfl⟩:=own_sl hu;have b5:=b4.alloc b4.size (.cells #[.string x.1.nm,.int .i64 s.1.ty,.int .i64 s.1.tt,.slice ua s.1.da.length uc] 65);have b6:Below W'.heap.size W' ((w4.alloc (.cells #[.string x.1.nm,.int .i64 s.1.ty,.int .i64 s.1.tt,.slice ua s.1.da.length uc] 65)).alloc (.cells #[.string x.1.nm,.int .i64 s.1.ty,.int .i64 s.1.tt,.slice ua s.1.da.length uc] 65)):=b5.alloc b5.size _;have c5:=(blk_cell (blk_below k1 b5) 1).trans rfl;have z6:=(z4.below b6).outer
      have hu5:(w4.alloc (.cells #[.string x.1.nm,.int .i64 s.1.ty,.int .i64 s.1.tt,.slice ua s.1.da.length uc] 65)).ownsRow w.heap.size 9 1 (.slice ua s.1.da.length uc) (szT (x.1,s.1)).da.length ((szT (x.1,s.1)).da.map Value.string):=by
       have h9:=own_base (own_below hu ((Below.refl _ w4).alloc (Nat.le_refl _) (.cells #[.string x.1.nm,.int .i64 s.1.ty,.int .i64 s.1.tt,.slice ua s.1.da.length uc] 65))) hsW';simpa [szT,List.map_map,Function.comp_def] using h9
      have hap:∀ p∈ps,∀ g,p.2.ownBlock=some g->(Value.slice ua s.1.da.length uc).ownBlock≠some g:=fun p hp g e e'=>by
       obtain⟨i,hi⟩:=List.getElem?_of_mem hp;have h8:=((z4.inner i p hi).lt g e).2;have h9:=(hu.lt g e').1;omega
      have HU:=Nm.hide (And.intro hu5 hap)
      clear hu5 hap hu b4)
    |(gi_at_builtin
      refine wpListIn_append_own _ rfl _ _ 26 rfl w.heap.size 65 i0 (.agg #[.string ByteArray.empty,.int .i64 0,.int .i64 0,.slice none 0 0]) 4 56 Tryz.underlying26 hi hz0 hz1 hz2 rfl (by decide) _ _ _ rfl z6 ⟨w4.heap.size+1,0,none⟩ 1 1 [.string x.1.nm,.int .i64 s.1.ty,.int .i64 s.1.tt,.slice ua s.1.da.length uc] rfl rfl (by have h9:=cell_newV (w4.alloc (.cells #[.string x.1.nm,.int .i64 s.1.ty,.int .i64 s.1.tt,.slice ua s.1.da.length uc] 65)) #[.string x.1.nm,.int .i64 s.1.ty,.int .i64 s.1.tt,.slice ua s.1.da.length uc] 65;rw [World.size_alloc] at h9;exact h9) (by intro u hu;simp at hu;rcases hu with rfl|rfl|rfl|rfl<;>rfl) (by unfold maxLen;omega) (by omega) (by have:=b6.size;omega) ?_;intro v' w7 hown' hgrow _;obtain⟨g',cap',rfl⟩:=ownsRow_succ hown';have zm:=zst_more (apex:=apex) (s:=szT (x.1,s.1)) (blk_below k1 b5) (blk_below k2 b5) (z4.below b5) (by have:=hw1s.out;omega) (by have:=b5.size;omega) (by have:=hw1s.out;omega) HU.out.1 HU.out.2 hown' hgrow;obtain⟨q1,q2,q3,q4,q5⟩:=zm;have c7:=fun i=>blk_cell q1 i
      have f7:=fun i=>blk_frozen q1 i))
   obtain⟨e3,hBW,hKF,hB3,_⟩:=HQ.out;have hKb:=(keeps_below b5).trans q3;have hBb:=(b5.mono hsW').trans q4;refine⟨hKb.from _,hBb,⟨?_,q5 _ _ _ (blk_below bX2 b5) (by decide) (by have:=HS.out.2.2.2;omega)⟩,hBW.trans hBb,hKF.trans (hKb.from _)⟩;rw [e3] at q2;rw [List.map_append,<- List.append_assoc];exact q2
  case done2=>
   rintro ys' W' rfl ⟨⟨hz2,bX2⟩,hBW,hKF⟩;have HS2:=Nm.hide hKF.size
   gi_wp2
   refine⟨hKF,hBW,?_,hB1.trans hBW,by have:=HS2.out;have:=HS.out.1;omega⟩
   have e5:zoneT ((pre++[x]).map (·.1))=zoneT (pre.map (·.1))++x.1.ss.attach.map fun s=>szT (x.1,s.1):=by
    rw [List.map_append,List.map_cons,List.map_nil,zoneT_snoc];congr 1
    conv=>lhs;rw [<- List.attach_map_subtype_val x.1.ss]
    rw [List.map_map];rfl
   rw [e5];exact hz2
  case stop2=>
   rintro c pre' W' _ h;exact h.elim
 case done=>
  rintro D zs W hD rfl ⟨hzs,hB1,hs1⟩ hK;rw [List.attach_map_subtype_val] at hzs;obtain⟨v,ps,k1,k2,e3,z4⟩:=hzs;obtain⟨va,vc,rfl⟩:=own_sl z4.outer;have r1:=fun i=>blk_cell k1 i
  have r2:=fun i=>blk_cell k2 i
  have f2:=fun i=>blk_frozen k2 i
  gi_wp2
  have hDn:D≠w.heap.size:=by omega
  have k5:=blk_set (blk_set k2 0 (.string apex)) 1 (.slice va ps.length vc);simp only [List.setIfInBounds_toArray,List.set_cons_zero,List.set_cons_succ] at k5;have hK5:((W.setCell ⟨w.heap.size,0,none⟩ (.string apex)).setCell ⟨w.heap.size,1,none⟩ (.slice va ps.length vc)).heap[D]? =some (.deferred (some [])):=(heap_setCell_other _ ⟨w.heap.size,1,none⟩ D _ hDn).trans ((heap_setCell_other _ ⟨w.heap.size,0,none⟩ D _ hDn).trans hK);have b5:=(hB1.setCell (p:=⟨w.heap.size,0,none⟩) (Nat.le_refl _) (.string apex)).setCell (p:=⟨w.heap.size,1,none⟩) (Nat.le_refl _) (.slice va ps.length vc)
  have z5:=(z4.beside (grown_setC W w.heap.size 0 (.string apex)) (fun g e=>by cases e;exact own_nb z4.outer k2 (by decide)) (fun g e p hp=>by
   cases e
   obtain⟨i,hi⟩:=List.getElem?_of_mem hp
   exact own_nb (z4.inner i p hi) k2 (by decide)))
  have k2':=blk_set k2 0 (.string apex)
  have z6:=(z5.beside (grown_setC _ w.heap.size 1 (.slice va ps.length vc)) (fun g e=>by cases e;exact own_nb z5.outer k2' (by decide)) (fun g e p hp=>by
   cases e
   obtain⟨i,hi⟩:=List.getElem?_of_mem hp
   exact own_nb (z5.inner i p hi) k2' (by decide)))
  clear r1 r2 f2 k1 k2 k2' z4 z5 hK hB1;generalize (W.setCell ⟨w.heap.size,0,none⟩ (.string apex)).setCell ⟨w.heap.size,1,none⟩ (.slice va ps.length vc)=W5 at*;refine⟨by simp,.inl ⟨_,_,rfl,run_takeDeferred hK5,?_⟩⟩;have b6:=b5.trans (belowK_b (w:=w) (Nat.le_refl _) W5 D _ (.deferred none) (by omega) hK5 rfl rfl);have k6:Blk (W5.putObj D (.deferred none)) w.heap.size _ _:=blk_grown k5 (grownBy_putObj' W5 D _) (fun e=>by cases e;exact hDn rfl)
  have z7:ZOwn (W5.putObj D (.deferred none)) w.heap.size (.slice va ps.length vc) ps:=z6.beside (grownBy_putObj' W5 D _) (fun g e=>by cases e;exact own_nonc z6.outer ⟨_,hK5,rfl⟩) (fun g e p hp=>by
   cases e
   obtain⟨i,hi⟩:=List.getElem?_of_mem hp
   exact own_nonc (z6.inner i p hi) ⟨_,hK5,rfl⟩)
  refine⟨.agg #[.string apex,.slice va ps.length vc],?_,_,ps,rfl,e3,z7,b6⟩;have r:=fun i=>blk_cell k6 i
  simp [results,Tryz.results29,go_sem,Result.andThen,r]
 case stop=>
  rintro D c pre W _ _ h _;exact h.elim
theorem zone_any(bb oo th:Nat)(rv:Value)(os:List GOw)(B:Nat)(apex:ByteArray)(w:World)(h:TrAt w B th rv os)(hd:TrS os)(hl:os.length<=400000)(hLab:LabAt w (fpT th rv os) os)(hc:w.cell? ⟨bb,oo+1,none⟩=some (ptr th))(ha:apex.size<=1000000000):
 Calls Tryz.prog 29 #[.pointer (some ⟨bb,oo,none⟩),.string apex] w fun e W'=>∃ v ps,e=.returned (.agg #[.string apex,v])∧ps.map (·.1)=zoneT os∧ZOwn W' w.heap.size v ps∧Below w.heap.size w W':=
 (callsIn_wide (n:=9)).1 (zone_in Fence.wide 9 trivial trivial trivial trivial trivial trivial trivial rfl (by omega) bb oo th rv os B apex w h hd hl hLab hc
  (fun m W=>callsIn_wide.2 (clone_any apex W ha))
  (fun o s m W ho hs hW=>callsIn_wide.2 (ownerSet_any o s B W ((h.owners o ho).below hW) (by have:=(hd.2 o ho).2.1;omega) (hd.2 o ho).1 hs (by have:=((hd.2 o ho).2.2 s hs).2;omega))))
end Go.Proofs.YtmdinnjimioffaaGreat
