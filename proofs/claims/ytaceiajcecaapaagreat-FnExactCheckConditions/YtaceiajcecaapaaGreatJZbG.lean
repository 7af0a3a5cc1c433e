import Derived.Test.YtaceiajcecaapaaGreatJZrM
import Derived.Test.YtaceiajcecaapaaGreatJZbA
import Derived.Test.YtaceiajcecaapaaGreatJZnM
import Derived.Test.YtaceiajcecaapaaGreatJFoldD
import Derived.RegionTactic
import Derived.Test.YtaceiajcecaapaaGreatCut
import Derived.Test.YtaceiajcecaapaaGreatJTrR
import Derived.Test.YtaceiajcecaapaaGreatJRrM
import Derived.Test.YtaceiajcecaapaaGreatJTrM
namespace Go.Proofs.YtaceiajcecaapaaGreat
open Go.RowKit
set_option linter.unusedVariables false
def itemOf(r:Rr):It:=⟨r,Nm.foldS r.own,foldR r.ty r.da,false⟩
def badOne(apex:ByteArray):List Rr->Nat->Option (Int×Nat)
 |[],_=>none
 |r::rs,i=>if oneC r apex=0 then badOne apex rs (i+1) else some (oneC r apex,i)
theorem badOne_at{apex:ByteArray}:∀ (l:List Rr) (k i:Nat) (r:Rr),(∀ (j:Nat) (x:Rr),j<k->l[j]? =some x->oneC x apex=0)->l[k]? =some r->oneC r apex≠0->badOne apex l i=some (oneC r apex,i+k):=by
 intro l
 induction l with
 |nil=>intro k i r _ h;simp at h
 |cons x l ih=>
  intro k i r hno hr hp
  cases k with
  |zero=>
   simp at hr;subst hr
   rw [badOne,if_neg hp];rfl
  |succ k=>
   simp at hr;rw [badOne,if_pos (hno 0 x (by omega) rfl),ih k (i+1) r (fun j y hj hy=>hno (j+1) y (by omega) (by simpa using hy)) hr hp];congr 2;omega
theorem badOne_no{apex:ByteArray}:∀ (l:List Rr) (i:Nat),(∀ (j:Nat) (x:Rr),j<l.length->l[j]? =some x->oneC x apex=0)->badOne apex l i=none:=by
 intro l
 induction l with
 |nil=>intro i _;rfl
 |cons x l ih=>
  intro i hno;rw [badOne,if_pos (hno 0 x (by simp) rfl)];exact ih (i+1) (fun j y hj hy=>hno (j+1) y (by simp;omega) (by simpa using hy))
def addLast(acc:List Sz)(d:ByteArray):List Sz:=match acc.getLast? with
 |some s=>acc.dropLast++[{s with da:=s.da++[d]}]
 |none=>[]
def newSet(srt:List It)(k:Nat)(x:It):Bool:=match k with
 |0=>true
 |k+1=>match srt[k]? with
  |some y=>decide (y.fo≠x.fo)||decide (y.r.ty≠x.r.ty)
  |none=>true
def grpK(l srt:List It):Nat->List Sz
 |0=>[]
 |k+1=>match srt[k]? with
  |some x=>if newSet srt k x then grpK l srt k++[⟨ownI l x.fo,x.r.ty,x.r.tt,[x.r.da]⟩] else addLast (grpK l srt k) x.r.da
  |none=>grpK l srt k
theorem grpK_new{l srt:List It}{k:Nat}{x:It}(h:srt[k]? =some x)(hn:newSet srt k x=true):grpK l srt (k+1)=grpK l srt k++[⟨ownI l x.fo,x.r.ty,x.r.tt,[x.r.da]⟩]:=by
 rw [grpK,h];simp [hn]
theorem grpK_old{l srt:List It}{k:Nat}{x:It}{qs:List Sz}{s:Sz}(h:srt[k]? =some x)(hn:newSet srt k x=false)(hg:grpK l srt k=qs++[s]):grpK l srt (k+1)=qs++[{s with da:=s.da++[x.r.da]}]:=by
 rw [grpK,h];simp [hn,hg,addLast]
theorem grpK_last{l srt:List It}:∀ (k:Nat),0<k->k<=srt.length->∃ qs s,grpK l srt k=qs++[s]:=by
 intro k
 induction k with
 |zero=>intro h;omega
 |succ k ih=>
  intro _ hk;obtain⟨x,hx⟩:∃ x,srt[k]? =some x:=⟨_,List.getElem?_eq_getElem (by omega)⟩
  cases hn:newSet srt k x with
  |true=>exact⟨_,_,grpK_new hx hn⟩
  |false=>
   have hk0:0<k:=by
    rcases Nat.eq_zero_or_pos k with h|h
    ·subst h;simp [newSet] at hn
    ·exact h
   obtain⟨qs,s,e⟩:=ih hk0 (by omega);exact⟨_,_,grpK_old hx hn e⟩
theorem grpK_len{l srt:List It}:∀ (k:Nat),k<=srt.length->(grpK l srt k).length<=k∧∀ s∈grpK l srt k,s.da.length<=k:=by
 intro k
 induction k with
 |zero=>intro _;exact⟨Nat.le_refl _,by simp [grpK]⟩
 |succ k ih=>
  intro hk;obtain⟨h1,h2⟩:=ih (by omega);obtain⟨x,hx⟩:∃ x,srt[k]? =some x:=⟨_,List.getElem?_eq_getElem (by omega)⟩
  cases hn:newSet srt k x with
  |true=>
   rw [grpK_new hx hn];refine⟨by simp;omega,fun s hs=>?_⟩
   rcases List.mem_append.1 hs with h|h
   ·have:=h2 s h;omega
   ·simp at h;subst h;simp
  |false=>
   have hk0:0<k:=by
    rcases Nat.eq_zero_or_pos k with h|h
    ·subst h;simp [newSet] at hn
    ·exact h
   obtain⟨qs,s,e⟩:=grpK_last (l:=l) (srt:=srt) k hk0 (by omega);rw [grpK_old hx hn e];rw [e] at h1 h2;refine⟨by simp at h1 ⊢;omega,fun t ht=>?_⟩
   rcases List.mem_append.1 ht with h|h
   ·have:=h2 t (List.mem_append.2 (.inl h));omega
   ·simp at h;subst h;have:=h2 s (by simp)
    simp;omega
def itsOf(list:List Rr):List It:=twI (list.map itemOf)
def restOf(list:List Rr):List It:=(itsOf list).filter fun x=> !x.out
def srtOf(list:List Rr):List It:=sortI (restOf list)
def bldZ(list:List Rr):List Sz:=grpK (itsOf list) (srtOf list) (srtOf list).length
def bldE(list:List Rr)(apex:ByteArray):Int×Int:=
 if(Nm.split apex).isSome=false then(32,-1) else if 500<list.length then(12,-1) else
 match badOne apex list 0 with
 |some (c,i)=>(c,i)
 |none=>if 0<=badI (list.map itemOf) then(24,badI (list.map itemOf)) else if(rulesI (itsOf list) (Nm.foldS apex)).1≠0 then rulesI (itsOf list) (Nm.foldS apex) else(0,0)
structure Ld where
 at_:Nat
 ty:Int
 ob:Nat
 sb:Nat
def ldC(x:Ld):List Value:=[.int .i64 (x.at_:Int),.int .i64 x.ty,.pointer (some ⟨x.ob,0,none⟩),.pointer (some ⟨x.sb,0,none⟩)]
def ldVs(l:List Ld):List Value:=l.flatMap ldC
theorem ld_at:∀ (l:List Ld) (k j:Nat) (x:Ld),l[k]? =some x->j<4->(ldVs l)[k*4+j]? =(ldC x)[j]? :=by
 intro l
 induction l with
 |nil=>intro k j x h;simp at h
 |cons y l ih=>
  intro k j x h hj;have e:ldVs (y::l)=ldC y++ldVs l:=by simp [ldVs]
  have hy:(ldC y).length=4:=rfl;rw [e]
  cases k with
  |zero=>
   simp at h;subst h;rw [List.getElem?_append_left (by omega)]
   simp
  |succ k=>
   simp at h;rw [List.getElem?_append_right (by omega),hy,show(k+1)*4+j-4=k*4+j by omega];exact ih k j x h hj
def fstR(f:Ld->Bool)(code:Int)(l:List Ld):Value:=match l.find? f with
 |some x=>.tuple #[.int .i64 code,.int .i64 (x.at_:Int)]
 |none=>.tuple #[.int .i64 0,.int .i64 0]
theorem fst_no{f:Ld->Bool}{code:Int}{l:List Ld}(h:∀ j x,j<l.length->l[j]? =some x->f x=false):fstR f code l=.tuple #[.int .i64 0,.int .i64 0]:=by
 have:l.find? f=none:=by
  rw [List.find?_eq_none];intro x hx;obtain⟨j,hj⟩:=List.mem_iff_getElem?.1 hx;rw [h j x (List.getElem?_eq_some_iff.1 hj).1 hj];simp
 rw [fstR,this]
theorem fst_at{f:Ld->Bool}{code:Int}:∀ {l:List Ld} {k:Nat} {x:Ld},(∀ j y,j<k->l[j]? =some y->f y=false)->l[k]? =some x->f x=true->fstR f code l=.tuple #[.int .i64 code,.int .i64 (x.at_:Int)]:=by
 intro l
 induction l with
 |nil=>intro k x _ h;simp at h
 |cons y l ih=>
  intro k x hno hx hf
  cases k with
  |zero=>
   simp at hx;subst hx
   rw [fstR,List.find?_cons_of_pos hf]
  |succ k=>
   have hy:f y=false:=hno 0 y (by omega) rfl;have:=ih (k:=k) (x:=x) (fun j z hj hz=>hno (j+1) z (by omega) (by simpa using hz)) (by simpa using hx) hf;rw [fstR] at this ⊢;rw [List.find?_cons_of_neg (by simp [hy])];exact this
end Go.Proofs.YtaceiajcecaapaaGreat
namespace Go.Proofs.YtaceiajcecaapaaGreat
open Go.RowKit
set_option maxRecDepth 100000 in
set_option maxHeartbeats 400000 in
theorem implCheckData_any(t:Int)(d:ByteArray)(w:World)(hd:d.size<=2000000):
 Calls Tryz.prog 126 #[.int .i64 t,.string d] w fun e w'=>e=.returned (.int .i64 (cutCode t d))∧Below w.heap.size w w':=by
 have hcall:=cutData_any t d w hd;go_enter Tryz.func126,Tryz.ntmps126;go_wp2_with (go_at_call 130;refine hcall.mono ?_;rintro e w2 ⟨v,rfl,_,_,hbel⟩)
 go_ret;exact⟨rfl,hbel⟩
end Go.Proofs.YtaceiajcecaapaaGreat
namespace Go.Proofs.YtaceiajcecaapaaGreat
open Go.RowKit
set_option linter.unusedVariables false
set_option maxRecDepth 100000 in
set_option maxHeartbeats 1600000 in
theorem firstSingle_any(bb:Nat)(code:Int)(v:Value)(ls:List Ld)(f:Ld->Bool)(w:World)(hk:w.cell? ⟨bb,5,none⟩=some v)(h:CRow w v ls.length 4 (ldVs ls))(hl:ls.length<=1000000)
 (hf:∀ x∈ls,∀ W,Below w.heap.size w W->Calls Tryz.prog 112 #[.agg #[.int .i64 (x.at_:Int),.int .i64 x.ty,.pointer (some ⟨x.ob,0,none⟩),.pointer (some ⟨x.sb,0,none⟩)]] W fun e w'=>e=.returned (.bool (f x))∧Below W.heap.size W w'):
 Calls Tryz.prog 107 #[.pointer (some ⟨bb,0,none⟩),.int .i64 code,.func (.func 112) #[] #[]] w fun e w'=>e=.returned (fstR f code ls)∧Below w.heap.size w w':=by
 obtain⟨_,a,cap,rfl,hcap,hmx,hc⟩:=h;unfold maxLen at hmx;have HF:=Nm.hide hf;clear hf;go_enter Tryz.func107,Tryz.ntmps107;go_wp2
 go_loopw [15] (fun i wr=>∃ k:Nat,k<=ls.length∧i=.int .i64 k∧(∀ j x,j<k->ls[j]? =some x->f x=false)∧Below w.heap.size w wr) (fun i _=>ls.length-(intOf i).toNat)
 case atStart=>exact⟨0,Nat.zero_le _,rfl,fun j x hj=>absurd hj (Nat.not_lt_zero _),Below.refl _ _⟩
 case round=>
  obtain⟨k,hk',rfl,hno,hbel⟩:=hrel;have HR:=Nm.hide (And.intro hno hbel)
  by_cases hlt:k<ls.length
  ·obtain⟨x,hx⟩:∃ x,ls[k]? =some x:=⟨_,List.getElem?_eq_getElem hlt⟩;obtain⟨b,off,rfl,hcell⟩:=hc (by omega);have put:∀ {O:Nat} {z:Value},w.cell? ⟨b,O,none⟩=some z->wr.cell? ⟨b,O,none⟩=some z:=fun h=>(hbel.cell (World.block_lt_of_cell? w _ h)).trans h
   have d0:=put (hcell (k*4) _ (ld_at ls k 0 x hx (by decide)));have d1:=put (hcell (k*4+1) _ (ld_at ls k 1 x hx (by decide)));have d2:=put (hcell (k*4+2) _ (ld_at ls k 2 x hx (by decide)));have d3:=put (hcell (k*4+3) _ (ld_at ls k 3 x hx (by decide)));simp only [<- Nat.add_assoc] at d1 d2 d3;have hfx:=HF.out x (List.mem_of_getElem? hx) (wr.alloc (.cells #[.int .i64 (x.at_:Int),.int .i64 x.ty,.pointer (some ⟨x.ob,0,none⟩),.pointer (some ⟨x.sb,0,none⟩)] 149)) (hbel.alloc hbel.size _);have kb:=blk_new wr #[.int .i64 (x.at_:Int),.int .i64 x.ty,.pointer (some ⟨x.ob,0,none⟩),.pointer (some ⟨x.sb,0,none⟩)] 149;have hb1:=hbel.alloc hbel.size (.cells #[.int .i64 (x.at_:Int),.int .i64 x.ty,.pointer (some ⟨x.ob,0,none⟩),.pointer (some ⟨x.sb,0,none⟩)] 149);have HX:=Nm.hide hx;have i1:(0:Int)<=(k:Int):=by omega
   have i2:(k:Int)<(ls.length:Int):=by omega
   clear hc hcell hx hno hbel put hk;simp only [World.size_alloc] at hfx;go_wp2_with fail
   refine hfx.mono ?_;rintro e w2 ⟨rfl,b2⟩;have kb2:=blk_below kb (by simpa using b2);have rb2:=fun i=>blk_cell kb2 i
   have hB2:=Nm.below_two hb1 (by simpa using b2);clear hfx d0 d1 d2 d3
   cases hfv:f x with
   |true=>
    have HV:=Nm.hide hfv;clear hfv;go_wp2;go_region
    all_goals go_wp2
    all_goals go_ret2
    all_goals exact⟨by rw [fst_at HR.out.1 HX.out HV.out];rfl,hB2.drew⟩
   |false=>
    have HV:=Nm.hide hfv;clear hfv;go_wp2;go_roundw
    case rel=>
     refine⟨k+1,by omega,by go_num,fun j y hj hy=>?_,hB2⟩
     rcases Nat.lt_succ_iff_lt_or_eq.1 hj with h1|rfl
     ·exact HR.out.1 j y h1 hy
     ·rw [HX.out] at hy;cases hy;exact HV.out
    case measure=>simp [intOf];omega
  ·have hke:k=ls.length:=by omega
   subst hke;clear hc hno hbel;go_wp2;go_ret2;exact⟨by rw [fst_no HR.out.1];rfl,HR.out.2⟩
set_option maxRecDepth 100000 in
set_option maxHeartbeats 3200000 in
theorem validRecord_any(r:Rr)(w:World)(ho:r.own.size<=1048576)(hd:r.da.size<=1048576):
 Calls Tryz.prog 80 #[.agg #[.string r.own,.int .i64 r.ty,.int .i64 r.cl,.int .i64 r.tt,.string r.da]] w fun e w'=>e=.returned (.bool (rcOK r))∧Below w.heap.size w w':=by
 have hR0:=RB.new w r 47;have hB0:=(Below.refl w.heap.size w).alloc (Nat.le_refl _) (.cells #[.string r.own,.int .i64 r.ty,.int .i64 r.cl,.int .i64 r.tt,.string r.da] 47);have hno:=fun W=>implNameOK_any r.own W (by unfold maxLen;omega)
 have hi1:=fun W=>within_any r.ty 65535 W
 have hi2:=fun W=>within_any r.cl 65535 W
 have hi3:=fun W=>within_any r.tt 4294967295 W
 have hck:=fun W=>implCheckData_any r.ty r.da W (by omega)
 have HM:Hid (rcOK r=((Nm.split r.own).isSome&&(decide (0<=r.ty)&&decide (r.ty<=65535))&&(decide (0<=r.cl)&&decide (r.cl<=65535))&&(decide (0<=r.tt)&&decide (r.tt<=4294967295))&&(decide (r.da.size=0)||cutCode r.ty r.da==0))):=rfl;have he5:=str_empty (s:=r.da);obtain⟨o,ty,cl,tt,da⟩:=r;simp only at hR0 hB0 hno hi1 hi2 hi3 hck HM he5 ⊢
 generalize rcOK ⟨o,ty,cl,tt,da⟩=M at*;generalize (Nm.split o).isSome=B1 at*;generalize (decide (0<=ty)&&decide (ty<=65535))=B2 at*;generalize (decide (0<=cl)&&decide (cl<=65535))=B3 at*;generalize (decide (0<=tt)&&decide (tt<=4294967295))=B4 at*;generalize cutCode ty da=C6 at*;generalize decide (da.size=0)=B5 at*;clear ho hd
 cases B1 with
 |false=>
  obtain rfl:M=false:=by rw [HM.out];simp
  go_enter Tryz.func80,Tryz.ntmps80;go_wp2_with (first|(go_at_call 124;refine(hno _).mono ?_;rintro e w1 ⟨rfl,hb1⟩;obtain⟨c0,c1,c2,c3,c4⟩:=hR0.below hb1)|(go_at_call 125;first|(with_reducible refine(hi1 _).mono ?_;rintro e wf ⟨rfl,hw⟩;obtain rfl:=hw.symm;clear hw)|(with_reducible refine(hi2 _).mono ?_;rintro e wf ⟨rfl,hw⟩;obtain rfl:=hw.symm;clear hw)|(with_reducible refine(hi3 _).mono ?_;rintro e wf ⟨rfl,hw⟩;obtain rfl:=hw.symm;clear hw))|(go_at_call 126;refine(hck _).mono ?_;rintro e w2 ⟨rfl,hb2⟩))
  go_ret
  exact⟨rfl,Nm.below_two hB0 hb1⟩
 |true=>
  cases B2 with
  |false=>
   obtain rfl:M=false:=by rw [HM.out];simp
   go_enter Tryz.func80,Tryz.ntmps80;go_wp2_with (first|(go_at_call 124;refine(hno _).mono ?_;rintro e w1 ⟨rfl,hb1⟩;obtain⟨c0,c1,c2,c3,c4⟩:=hR0.below hb1)|(go_at_call 125;first|(with_reducible refine(hi1 _).mono ?_;rintro e wf ⟨rfl,hw⟩;obtain rfl:=hw.symm;clear hw)|(with_reducible refine(hi2 _).mono ?_;rintro e wf ⟨rfl,hw⟩;obtain rfl:=hw.symm;clear hw)|(with_reducible refine(hi3 _).mono ?_;rintro e wf ⟨rfl,hw⟩;obtain rfl:=hw.symm;clear hw))|(go_at_call 126;refine(hck _).mono ?_;rintro e w2 ⟨rfl,hb2⟩))
   go_ret
   exact⟨rfl,Nm.below_two hB0 hb1⟩
  |true=>
   cases B3 with
   |false=>
    obtain rfl:M=false:=by rw [HM.out];simp
    go_enter Tryz.func80,Tryz.ntmps80;go_wp2_with (first|(go_at_call 124;refine(hno _).mono ?_;rintro e w1 ⟨rfl,hb1⟩;obtain⟨c0,c1,c2,c3,c4⟩:=hR0.below hb1)|(go_at_call 125;first|(with_reducible refine(hi1 _).mono ?_;rintro e wf ⟨rfl,hw⟩;obtain rfl:=hw.symm;clear hw)|(with_reducible refine(hi2 _).mono ?_;rintro e wf ⟨rfl,hw⟩;obtain rfl:=hw.symm;clear hw)|(with_reducible refine(hi3 _).mono ?_;rintro e wf ⟨rfl,hw⟩;obtain rfl:=hw.symm;clear hw))|(go_at_call 126;refine(hck _).mono ?_;rintro e w2 ⟨rfl,hb2⟩))
    go_ret
    exact⟨rfl,Nm.below_two hB0 hb1⟩
   |true=>
    cases B4 with
    |false=>
     obtain rfl:M=false:=by rw [HM.out];simp
     go_enter Tryz.func80,Tryz.ntmps80;go_wp2_with (first|(go_at_call 124;refine(hno _).mono ?_;rintro e w1 ⟨rfl,hb1⟩;obtain⟨c0,c1,c2,c3,c4⟩:=hR0.below hb1)|(go_at_call 125;first|(with_reducible refine(hi1 _).mono ?_;rintro e wf ⟨rfl,hw⟩;obtain rfl:=hw.symm;clear hw)|(with_reducible refine(hi2 _).mono ?_;rintro e wf ⟨rfl,hw⟩;obtain rfl:=hw.symm;clear hw)|(with_reducible refine(hi3 _).mono ?_;rintro e wf ⟨rfl,hw⟩;obtain rfl:=hw.symm;clear hw))|(go_at_call 126;refine(hck _).mono ?_;rintro e w2 ⟨rfl,hb2⟩))
     go_ret
     exact⟨rfl,Nm.below_two hB0 hb1⟩
    |true=>
     cases B5 with
     |true=>
      obtain rfl:M=true:=by rw [HM.out];simp
      go_enter Tryz.func80,Tryz.ntmps80;go_wp2_with (first|(go_at_call 124;refine(hno _).mono ?_;rintro e w1 ⟨rfl,hb1⟩;obtain⟨c0,c1,c2,c3,c4⟩:=hR0.below hb1)|(go_at_call 125;first|(with_reducible refine(hi1 _).mono ?_;rintro e wf ⟨rfl,hw⟩;obtain rfl:=hw.symm;clear hw)|(with_reducible refine(hi2 _).mono ?_;rintro e wf ⟨rfl,hw⟩;obtain rfl:=hw.symm;clear hw)|(with_reducible refine(hi3 _).mono ?_;rintro e wf ⟨rfl,hw⟩;obtain rfl:=hw.symm;clear hw))|(go_at_call 126;refine(hck _).mono ?_;rintro e w2 ⟨rfl,hb2⟩))
      go_ret
      exact⟨rfl,Nm.below_two hB0 hb1⟩
     |false=>
      obtain rfl:M=(C6==0):=by rw [HM.out];simp
      go_enter Tryz.func80,Tryz.ntmps80;go_wp2_with (first|(go_at_call 124;refine(hno _).mono ?_;rintro e w1 ⟨rfl,hb1⟩;obtain⟨c0,c1,c2,c3,c4⟩:=hR0.below hb1)|(go_at_call 125;first|(with_reducible refine(hi1 _).mono ?_;rintro e wf ⟨rfl,hw⟩;obtain rfl:=hw.symm;clear hw)|(with_reducible refine(hi2 _).mono ?_;rintro e wf ⟨rfl,hw⟩;obtain rfl:=hw.symm;clear hw)|(with_reducible refine(hi3 _).mono ?_;rintro e wf ⟨rfl,hw⟩;obtain rfl:=hw.symm;clear hw))|(go_at_call 126;refine(hck _).mono ?_;rintro e w2 ⟨rfl,hb2⟩))
      go_ret;exact⟨rfl,Nm.below_two (Nm.below_two hB0 hb1) hb2⟩
end Go.Proofs.YtaceiajcecaapaaGreat
