import Derived.Test.YtahpiciofdfipaaGreatJTrD
import Derived.Test.YtahpiciofdfipaaGreatJZbA
import Derived.Test.YtahpiciofdfipaaGreatJTrM
import Derived.Test.YtahpiciofdfipaaGreatJFoldD
import Derived.RegionTactic
import Derived.Test.YtahpiciofdfipaaGreatJUnderM
namespace Go.Proofs.YtahpiciofdfipaaGreat
open Go.RowKit
set_option linter.unusedVariables false
def itemOf(r:Rr):It:=⟨r,Nm.foldS r.own,foldR r.ty r.da,false⟩
def badOne(apex:ByteArray):List Rr->Nat->Option (Int×Nat)
 |[],_=>none
 |r::rs,i=>if oneC r apex=0 then badOne apex rs (i+1) else some (oneC r apex,i)
theorem badOne_at{apex:ByteArray}:∀ (l:List Rr) (k i:Nat) (r:Rr),(∀ (j:Nat) (x:Rr),j<k->l[j]? =some x->oneC x apex=0)->l[k]? =some r->oneC r apex≠0->badOne apex l i=some (oneC r apex,i+k):=by
 intro l
 induction l with
 |nil=>intro k i r _ h;simp at h
 |cons x l ih=>
  intro k i r hno hr hp
  cases k with
  |zero=>
   simp at hr;subst hr
   rw [badOne,if_neg hp];rfl
  |succ k=>
   simp at hr;rw [badOne,if_pos (hno 0 x (by omega) rfl),ih k (i+1) r (fun j y hj hy=>hno (j+1) y (by omega) (by simpa using hy)) hr hp];congr 2;omega
theorem badOne_no{apex:ByteArray}:∀ (l:List Rr) (i:Nat),(∀ (j:Nat) (x:Rr),j<l.length->l[j]? =some x->oneC x apex=0)->badOne apex l i=none:=by
 intro l
 induction l with
 |nil=>intro i _;rfl
 |cons x l ih=>
  intro i hno;rw [badOne,if_pos (hno 0 x (by simp) rfl)];exact ih (i+1) (fun j y hj hy=>hno (j+1) y (by simp;omega) (by simpa using hy))
def addLast(acc:List Sz)(d:ByteArray):List Sz:=match acc.getLast? with
 |some s=>acc.dropLast++[{s with da:=s.da++[d]}]
 |none=>[]
def newSet(srt:List It)(k:Nat)(x:It):Bool:=match k with
 |0=>true
 |k+1=>match srt[k]? with
  |some y=>decide (y.fo≠x.fo)||decide (y.r.ty≠x.r.ty)
  |none=>true
def grpK(l srt:List It):Nat->List Sz
 |0=>[]
 |k+1=>match srt[k]? with
  |some x=>if newSet srt k x then grpK l srt k++[⟨ownI l x.fo,x.r.ty,x.r.tt,[x.r.da]⟩] else addLast (grpK l srt k) x.r.da
  |none=>grpK l srt k
theorem grpK_new{l srt:List It}{k:Nat}{x:It}(h:srt[k]? =some x)(hn:newSet srt k x=true):grpK l srt (k+1)=grpK l srt k++[⟨ownI l x.fo,x.r.ty,x.r.tt,[x.r.da]⟩]:=by
 rw [grpK,h];simp [hn]
theorem grpK_old{l srt:List It}{k:Nat}{x:It}{qs:List Sz}{s:Sz}(h:srt[k]? =some x)(hn:newSet srt k x=false)(hg:grpK l srt k=qs++[s]):grpK l srt (k+1)=qs++[{s with da:=s.da++[x.r.da]}]:=by
 rw [grpK,h];simp [hn,hg,addLast]
theorem grpK_last{l srt:List It}:∀ (k:Nat),0<k->k<=srt.length->∃ qs s,grpK l srt k=qs++[s]:=by
 intro k
 induction k with
 |zero=>intro h;omega
 |succ k ih=>
  intro _ hk;obtain⟨x,hx⟩:∃ x,srt[k]? =some x:=⟨_,List.getElem?_eq_getElem (by omega)⟩
  cases hn:newSet srt k x with
  |true=>exact⟨_,_,grpK_new hx hn⟩
  |false=>
   have hk0:0<k:=by
    rcases Nat.eq_zero_or_pos k with h|h
    ·subst h;simp [newSet] at hn
    ·exact h
   obtain⟨qs,s,e⟩:=ih hk0 (by omega);exact⟨_,_,grpK_old hx hn e⟩
theorem grpK_len{l srt:List It}:∀ (k:Nat),k<=srt.length->(grpK l srt k).length<=k∧∀ s∈grpK l srt k,s.da.length<=k:=by
 intro k
 induction k with
 |zero=>intro _;exact⟨Nat.le_refl _,by simp [grpK]⟩
 |succ k ih=>
  intro hk;obtain⟨h1,h2⟩:=ih (by omega);obtain⟨x,hx⟩:∃ x,srt[k]? =some x:=⟨_,List.getElem?_eq_getElem (by omega)⟩
  cases hn:newSet srt k x with
  |true=>
   rw [grpK_new hx hn];refine⟨by simp;omega,fun s hs=>?_⟩
   rcases List.mem_append.1 hs with h|h
   ·have:=h2 s h;omega
   ·simp at h;subst h;simp
  |false=>
   have hk0:0<k:=by
    rcases Nat.eq_zero_or_pos k with h|h
    ·subst h;simp [newSet] at hn
    ·exact h
   obtain⟨qs,s,e⟩:=grpK_last (l:=l) (srt:=srt) k hk0 (by omega);rw [grpK_old hx hn e];rw [e] at h1 h2;refine⟨by simp at h1 ⊢;omega,fun t ht=>?_⟩
   rcases List.mem_append.1 ht with h|h
   ·have:=h2 t (List.mem_append.2 (.inl h));omega
   ·simp at h;subst h;have:=h2 s (by simp)
    simp;omega
def itsOf(list:List Rr):List It:=twI (list.map itemOf)
def restOf(list:List Rr):List It:=(itsOf list).filter fun x=> !x.out
def srtOf(list:List Rr):List It:=sortI (restOf list)
def bldZ(list:List Rr):List Sz:=grpK (itsOf list) (srtOf list) (srtOf list).length
def bldE(list:List Rr)(apex:ByteArray):Int×Int:=
 if(Nm.split apex).isSome=false then(32,-1) else if 500<list.length then(12,-1) else
 match badOne apex list 0 with
 |some (c,i)=>(c,i)
 |none=>if 0<=badI (list.map itemOf) then(24,badI (list.map itemOf)) else if(rulesI (itsOf list) (Nm.foldS apex)).1≠0 then rulesI (itsOf list) (Nm.foldS apex) else(0,0)
structure Ld where
 at_:Nat
 ty:Int
 ob:Nat
 sb:Nat
def ldC(x:Ld):List Value:=[.int .i64 (x.at_:Int),.int .i64 x.ty,.pointer (some ⟨x.ob,0,none⟩),.pointer (some ⟨x.sb,0,none⟩)]
def ldVs(l:List Ld):List Value:=l.flatMap ldC
theorem ld_at:∀ (l:List Ld) (k j:Nat) (x:Ld),l[k]? =some x->j<4->(ldVs l)[k*4+j]? =(ldC x)[j]? :=by
 intro l
 induction l with
 |nil=>intro k j x h;simp at h
 |cons y l ih=>
  intro k j x h hj;have e:ldVs (y::l)=ldC y++ldVs l:=by simp [ldVs]
  have hy:(ldC y).length=4:=rfl;rw [e]
  cases k with
  |zero=>
   simp at h;subst h;rw [List.getElem?_append_left (by omega)]
   simp
  |succ k=>
   simp at h;rw [List.getElem?_append_right (by omega),hy,show(k+1)*4+j-4=k*4+j by omega];exact ih k j x h hj
def fstR(f:Ld->Bool)(code:Int)(l:List Ld):Value:=match l.find? f with
 |some x=>.tuple #[.int .i64 code,.int .i64 (x.at_:Int)]
 |none=>.tuple #[.int .i64 0,.int .i64 0]
theorem fst_no{f:Ld->Bool}{code:Int}{l:List Ld}(h:∀ j x,j<l.length->l[j]? =some x->f x=false):fstR f code l=.tuple #[.int .i64 0,.int .i64 0]:=by
 have:l.find? f=none:=by
  rw [List.find?_eq_none];intro x hx;obtain⟨j,hj⟩:=List.mem_iff_getElem?.1 hx;rw [h j x (List.getElem?_eq_some_iff.1 hj).1 hj];simp
 rw [fstR,this]
theorem fst_at{f:Ld->Bool}{code:Int}:∀ {l:List Ld} {k:Nat} {x:Ld},(∀ j y,j<k->l[j]? =some y->f y=false)->l[k]? =some x->f x=true->fstR f code l=.tuple #[.int .i64 code,.int .i64 (x.at_:Int)]:=by
 intro l
 induction l with
 |nil=>intro k x _ h;simp at h
 |cons y l ih=>
  intro k x hno hx hf
  cases k with
  |zero=>
   simp at hx;subst hx
   rw [fstR,List.find?_cons_of_pos hf]
  |succ k=>
   have hy:f y=false:=hno 0 y (by omega) rfl;have:=ih (k:=k) (x:=x) (fun j z hj hz=>hno (j+1) z (by omega) (by simpa using hz)) (by simpa using hx) hf;rw [fstR] at this ⊢;rw [List.find?_cons_of_neg (by simp [hy])];exact this
set_option maxRecDepth 100000 in
set_option maxHeartbeats 1600000 in
theorem firstSOA_any(bb:Nat)(cq:Nat)(code:Int)(v:Value)(ls:List Ld)(f:Ld->Bool)(w:World)(hk:w.cell? ⟨bb,5,none⟩=some v)(h:CRow w v ls.length 4 (ldVs ls))(hl:ls.length<=1000000)
 (hf:∀ x∈ls,∀ W,Below w.heap.size w W->Calls Tryz.prog 108 #[.agg #[.int .i64 (x.at_:Int),.int .i64 x.ty,.pointer (some ⟨x.ob,0,none⟩),.pointer (some ⟨x.sb,0,none⟩)],.pointer (some ⟨cq,0,none⟩)] W fun e w'=>e=.returned (.bool (f x))∧Below W.heap.size W w'):
 Calls Tryz.prog 107 #[.pointer (some ⟨bb,0,none⟩),.int .i64 code,.func (.func 108) #[] #[.pointer (some ⟨cq,0,none⟩)]] w fun e w'=>e=.returned (fstR f code ls)∧Below w.heap.size w w':=by
 obtain⟨_,a,cap,rfl,hcap,hmx,hc⟩:=h;unfold maxLen at hmx;have HF:=Nm.hide hf;clear hf;go_enter Tryz.func107,Tryz.ntmps107;go_wp2
 go_loopw [15] (fun i wr=>∃ k:Nat,k<=ls.length∧i=.int .i64 k∧(∀ j x,j<k->ls[j]? =some x->f x=false)∧Below w.heap.size w wr) (fun i _=>ls.length-(intOf i).toNat)
 case atStart=>exact⟨0,Nat.zero_le _,rfl,fun j x hj=>absurd hj (Nat.not_lt_zero _),Below.refl _ _⟩
 case round=>
  obtain⟨k,hk',rfl,hno,hbel⟩:=hrel;have HR:=Nm.hide (And.intro hno hbel)
  by_cases hlt:k<ls.length
  ·obtain⟨x,hx⟩:∃ x,ls[k]? =some x:=⟨_,List.getElem?_eq_getElem hlt⟩;obtain⟨b,off,rfl,hcell⟩:=hc (by omega);have put:∀ {O:Nat} {z:Value},w.cell? ⟨b,O,none⟩=some z->wr.cell? ⟨b,O,none⟩=some z:=fun h=>(hbel.cell (World.block_lt_of_cell? w _ h)).trans h
   have d0:=put (hcell (k*4) _ (ld_at ls k 0 x hx (by decide)));have d1:=put (hcell (k*4+1) _ (ld_at ls k 1 x hx (by decide)));have d2:=put (hcell (k*4+2) _ (ld_at ls k 2 x hx (by decide)));have d3:=put (hcell (k*4+3) _ (ld_at ls k 3 x hx (by decide)));simp only [<- Nat.add_assoc] at d1 d2 d3;have hfx:=HF.out x (List.mem_of_getElem? hx) (wr.alloc (.cells #[.int .i64 (x.at_:Int),.int .i64 x.ty,.pointer (some ⟨x.ob,0,none⟩),.pointer (some ⟨x.sb,0,none⟩)] 159)) (hbel.alloc hbel.size _);have kb:=blk_new wr #[.int .i64 (x.at_:Int),.int .i64 x.ty,.pointer (some ⟨x.ob,0,none⟩),.pointer (some ⟨x.sb,0,none⟩)] 159;have hb1:=hbel.alloc hbel.size (.cells #[.int .i64 (x.at_:Int),.int .i64 x.ty,.pointer (some ⟨x.ob,0,none⟩),.pointer (some ⟨x.sb,0,none⟩)] 159);have HX:=Nm.hide hx;have i1:(0:Int)<=(k:Int):=by omega
   have i2:(k:Int)<(ls.length:Int):=by omega
   clear hc hcell hx hno hbel put hk;simp only [World.size_alloc] at hfx;go_wp2_with fail
   refine hfx.mono ?_;rintro e w2 ⟨rfl,b2⟩;have kb2:=blk_below kb (by simpa using b2);have rb2:=fun i=>blk_cell kb2 i
   have hB2:=Nm.below_two hb1 (by simpa using b2);clear hfx d0 d1 d2 d3
   cases hfv:f x with
   |true=>
    have HV:=Nm.hide hfv;clear hfv;go_wp2;go_region
    all_goals go_wp2
    all_goals go_ret2
    all_goals exact⟨by rw [fst_at HR.out.1 HX.out HV.out];rfl,hB2.drew⟩
   |false=>
    have HV:=Nm.hide hfv;clear hfv;go_wp2;go_roundw
    case rel=>
     refine⟨k+1,by omega,by go_num,fun j y hj hy=>?_,hB2⟩
     rcases Nat.lt_succ_iff_lt_or_eq.1 hj with h1|rfl
     ·exact HR.out.1 j y h1 hy
     ·rw [HX.out] at hy;cases hy;exact HV.out
    case measure=>simp [intOf];omega
  ·have hke:k=ls.length:=by omega
   subst hke;clear hc hno hbel;go_wp2;go_ret2;exact⟨by rw [fst_no HR.out.1];rfl,HR.out.2⟩
def frsR(ap b:ByteArray):List Rr:=[⟨ap,6,1,3600,soaD ap b⟩,⟨ap,2,1,3600,subS [⟨#[110,115,49]⟩] ap⟩]
def apB(ap:ByteArray):Bool:=(Nm.split ap).isSome&&isUnderS ap ap&& !starB (Nm.foldS ap)&&(Nm.split (subS [⟨#[110,115,49]⟩] ap)).isSome&&(Nm.split (subS [⟨#[97,100,109,105,110]⟩] ap)).isSome
theorem ap_ok{ap:ByteArray}(h:ap∈apNs):apB ap=true:=by
 simp only [apNs,List.mem_cons,List.not_mem_nil,or_false] at h
 rcases h with rfl|rfl|rfl|rfl<;>decide+kernel
theorem lok_bs:∀ (l:List UInt8) (cs:List UInt8) (xs:List ByteArray),LOK cs xs->LOK (cs++List.replicate l.length 98) (xs++l.map fun c=>⟨#[c]⟩)
 |[],cs,xs,h=>by simpa using h
 |c::l,cs,xs,h=>by
  have h1:=lok_bs l (cs++[98]) (xs++[⟨#[c]⟩]) (h.snoc (fun e=>absurd e (by decide)) (fun _=>rfl));simpa [List.replicate_succ] using h1
theorem cat_ones:∀ (l:List UInt8),bA (Dt.catL (l.map fun c=>(⟨#[c]⟩:ByteArray)))=⟨l.toArray⟩
 |[]=>rfl
 |c::l=>by
  rw [List.map_cons,cat_cons,cat_ones l];apply Nm.ba_ext;simp
theorem soa_cut{ap b:ByteArray}(hap:ap∈apNs)(hb:b.size=20):cutCode 6 (soaD ap b)=0:=by
 have h:=ap_ok hap;have hs:=ap_size hap;simp only [apB,Bool.and_eq_true] at h;obtain⟨⟨_,h1⟩,h2⟩:=h
 have hl:LOK (Dt.formS (6:Nat)).data.toList ([subS [⟨#[110,115,49]⟩] ap,subS [⟨#[97,100,109,105,110]⟩] ap]++b.data.toList.map fun c=>(⟨#[c]⟩:ByteArray)):=by
  have h3:=lok_bs b.data.toList [110,110] [subS [⟨#[110,115,49]⟩] ap,subS [⟨#[97,100,109,105,110]⟩] ap] ⟨⟨fun _=>h1,fun e=>absurd e (by decide)⟩,⟨fun _=>h2,fun e=>absurd e (by decide)⟩,trivial⟩;have h4:b.data.toList.length=20:=by simpa using hb
  rw [h4] at h3;exact h3
 have e:bA (Dt.catL ([subS [⟨#[110,115,49]⟩] ap,subS [⟨#[97,100,109,105,110]⟩] ap]++b.data.toList.map fun c=>(⟨#[c]⟩:ByteArray)))=soaD ap b:=by
  rw [List.cons_append,List.cons_append,List.nil_append,cat_cons,cat_cons,cat_ones,soaD,ByteArray.append_assoc]
 have h5:=code_drawn (t:=6) (by decide) (by decide) hl (by
  rw [e,soaD,ByteArray.size_append,ByteArray.size_append,sub_len,sub_len,show Nm.wsum [(⟨#[110,115,49]⟩:ByteArray)]=4 from rfl,show Nm.wsum [(⟨#[97,100,109,105,110]⟩:ByteArray)]=6 from rfl]
  omega)
 rw [e] at h5;exact h5
theorem ns_cut{ap:ByteArray}(hap:ap∈apNs):cutCode 2 (subS [⟨#[110,115,49]⟩] ap)=0:=by
 have h:=ap_ok hap;have hs:=ap_size hap;simp only [apB,Bool.and_eq_true] at h
 have h5:=code_drawn (t:=2) (xs:=[subS [⟨#[110,115,49]⟩] ap]) (by decide) (by decide) ⟨⟨fun _=>h.1.2,fun e=>absurd e (by decide)⟩,trivial⟩ (by
  rw [cat_cons,show bA (Dt.catL [])=⟨#[]⟩ from rfl,ByteArray.size_append,sub_len,show Nm.wsum [(⟨#[110,115,49]⟩:ByteArray)]=4 from rfl,show(⟨#[]⟩:ByteArray).size=0 from rfl]
  omega)
 have e:bA (Dt.catL [subS [⟨#[110,115,49]⟩] ap])=subS [⟨#[110,115,49]⟩] ap:=by
  rw [cat_cons];apply Nm.ba_ext;simp [bA,Dt.catL]
 rw [e] at h5;exact h5
theorem two_rules{a b:Rr}{fo d e:ByteArray}(ha:a.ty=6)(hb:b.ty=2)(hs:starB fo=false):rulesI [⟨a,fo,d,false⟩,⟨b,fo,e,false⟩] fo=(0,0):=by
 have f1:firstI (fun i x=> !x.out&&decide (x.r.ty=6)&&(decide (x.fo≠fo)||hasI ([(⟨a,fo,d,false⟩:It),⟨b,fo,e,false⟩].take i) fo 6)) [⟨a,fo,d,false⟩,⟨b,fo,e,false⟩]=none:=by
  refine firstI_no fun i hi y hy=>?_
  match i,hy with
  |0,hy=>simp at hy;subst hy;simp [hasI]
  |1,hy=>simp at hy;subst hy;simp [hb]
  |i+2,hy=>simp at hy
 have g:∀ p:Nat->It->Bool,(p 0 ⟨a,fo,d,false⟩=false)->(p 1 ⟨b,fo,e,false⟩=false)->firstI p [⟨a,fo,d,false⟩,⟨b,fo,e,false⟩]=none:=by
  intro p h0 h1;refine firstI_no fun i hi y hy=>?_
  match i,hy with
  |0,hy=>simp at hy;subst hy;exact h0
  |1,hy=>simp at hy;subst hy;exact h1
  |i+2,hy=>simp at hy
 have h6:hasI [(⟨a,fo,d,false⟩:It),⟨b,fo,e,false⟩] fo 6=true:=by simp [hasI,ha]
 have h2:hasI [(⟨a,fo,d,false⟩:It),⟨b,fo,e,false⟩] fo 2=true:=by simp [hasI,ha,hb]
 rw [rulesI,f1];simp only [h6,h2,Bool.not_true,Bool.false_eq_true,if_false];rw [g _ (by simp [hs]) (by simp [hs]),g _ (by simp [ha]) (by simp [hb]),g _ (by simp [hasI,ha,hb]) (by simp [hasI,ha,hb]),g _ (by simp [ha,hb]) (by simp [ha,hb])]
theorem good_ok{ap b:ByteArray}(hap:ap∈apNs)(hb:b.size=20):bldE (frsR ap b) ap=(0,0):=by
 have h:=ap_ok hap;simp only [apB,Bool.and_eq_true,Bool.not_eq_true'] at h;obtain⟨⟨⟨⟨s1,s2⟩,s3⟩,s4⟩,s5⟩:=h;have k6:=soa_cut hap hb;have k2:=ns_cut hap
 have hone:badOne ap (frsR ap b) 0=none:=by
  rw [frsR,badOne,if_pos (by simp [oneC,s1,s2,k6,metaB]),badOne,if_pos (by simp [oneC,s1,s2,k2,metaB]),badOne]
 have hbad:badI ((frsR ap b).map itemOf)= -1:=by
  rw [badI,firstI_no];intro i hi y hy
  match i,hy with
  |0,hy=>simp [mixI]
  |1,hy=>
   simp [frsR] at hy
   subst hy
   simp [frsR,mixI,kinB,itemOf]
  |i+2,hy=>simp [frsR] at hy
 have hits:itsOf (frsR ap b)=[⟨⟨ap,6,1,3600,soaD ap b⟩,Nm.foldS ap,foldR 6 (soaD ap b),false⟩,⟨⟨ap,2,1,3600,subS [⟨#[110,115,49]⟩] ap⟩,Nm.foldS ap,foldR 2 (subS [⟨#[110,115,49]⟩] ap),false⟩]:=by
  rw [itsOf,twI];simp [frsR,outI,itemOf,dupI,kinB]
 rw [bldE,if_neg (by rw [s1];decide),if_neg (by simp [frsR]),hone];simp only [hbad];rw [if_neg (by decide),hits,two_rules rfl rfl s3];rfl
theorem bad_nz{apex:ByteArray}:∀ (l:List Rr) (i:Nat) (c:Int) (j:Nat),badOne apex l i=some (c,j)->c≠0
 |[],i,c,j,h=>by simp [badOne] at h
 |r::l,i,c,j,h=>by
  rw [badOne] at h
  split at h
  ·exact bad_nz l (i+1) c j h
  ·rename_i hn;simp at h;rw [<- h.1];exact hn
theorem bld_pos{list:List Rr}{ap:ByteArray}(h:(bldE list ap).1=0):0<(bldZ list).length:=by
 have h6:hasI (itsOf list) (Nm.foldS ap) 6=true:=by
  rw [bldE] at h
  split at h
  ·exact absurd h (by simp)
  ·split at h
   ·exact absurd h (by simp)
   ·split at h
    ·rename_i c i hc;exact absurd h (bad_nz _ _ c i hc)
    ·split at h
     ·exact absurd h (by simp)
     ·split at h
      ·rename_i hr;exact absurd h hr
      ·rename_i hr;have hr2:(rulesI (itsOf list) (Nm.foldS ap)).1=0:=Classical.byContradiction hr;rw [rulesI] at hr2
       split at hr2
       ·exact absurd hr2 (by simp)
       ·cases e:hasI (itsOf list) (Nm.foldS ap) 6 with
        |true=>rfl
        |false=>
         rw [e] at hr2;exact absurd hr2 (by simp)
 rw [hasI,List.any_eq_true] at h6;obtain⟨x,hx,hp⟩:=h6;simp only [Bool.and_eq_true,Bool.not_eq_true'] at hp;have hm:x∈restOf list:=List.mem_filter.2 ⟨hx,by simp [hp.1.1]⟩
 have hs:0<(srtOf list).length:=by
  rw [srtOf,sortI,sortF_len];exact List.length_pos_of_mem hm
 obtain⟨qs,s,e⟩:=grpK_last (l:=itsOf list) (srt:=srtOf list) _ hs (Nat.le_refl _);rw [bldZ,e];simp
end Go.Proofs.YtahpiciofdfipaaGreat
