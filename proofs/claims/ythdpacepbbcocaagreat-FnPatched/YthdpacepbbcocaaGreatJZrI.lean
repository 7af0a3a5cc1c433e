import Derived.Test.YthdpacepbbcocaaGreatJStI
set_option linter.unusedVariables false
set_option maxRecDepth 100000
set_option maxHeartbeats 3200000
namespace Go.Proofs.YthdpacepbbcocaaGreat
open Go.RowKit
theorem Tryz.aAx:(Tryz.prog.info? 29).map (fun i=>(i.zero,i.size,i.bytes))=some (some (.agg #[.string ByteArray.empty,.int .i64 0,.int .i64 0,.int .i64 0,.string ByteArray.empty]),5,56):=by kernel_rfl
theorem Nk(o:ByteArray)(v:Value)(ps:List Zp)(w:World)(h:gI w v ps)(hd:∀ p∈ps,p.1.da.length<=1048576):
 Calls Tryz.prog 103 #[.agg #[.string o,v]] w fun e w'=>e=.returned (.bool (decide (ps.length<=500∧jD ps<=500)))∧Below w.heap.size w w':=by
 have jF:=(aK w.heap.size w).alloc (aN _) (.cells #[.string o,v] 25);have CO:=h;obtain⟨⟨_,a,cap,rfl,gY,kK,_⟩,_⟩:=h;unfold maxLen at kK;obtain⟨RB,hRB⟩:∃ b,b=decide (ps.length<=500∧jD ps<=500):=⟨_,rfl⟩;rw [<- hRB]
 by_cases WH:500<ps.length
 ·have aGj:(500:Int)<(ps.length:Int):=by omega
  obtain rfl:RB=false:=by rw [hRB];simp;omega
  clear CO hRB;go_enter Tryz.func103,Tryz.ntmps103;go_wp2;go_ret;exact⟨rfl,jF⟩
 have aGj:(ps.length:Int)<=500:=by omega
 have HRB:=Nm.aF hRB;clear hRB;go_enter Tryz.func103,Tryz.ntmps103;go_wp2
 go_loopw [3,13] (fun t i wr=>∃ k:Nat,k<=ps.length∧i=.int .i64 k∧t=.int .i64 (jD (ps.take k):Int)∧jD (ps.take k)<=500∧Below w.heap.size w wr) (fun _ i _=>ps.length-(intOf i).toNat)
 case atStart=>exact⟨0,dO _,rfl,by simp [jD],by simp [jD],jF⟩
 obtain⟨k,hk,rfl,rfl,hle,aJ⟩:=hrel
 by_cases bV:k<ps.length
 ·obtain⟨x,nI⟩:∃ x,ps[k]? =some x:=⟨_,bY bV⟩;obtain⟨⟨_,a',cap',hv,_,_,hc⟩,Jk⟩:=CO.below aJ;simp only [iG] at hv;obtain⟨rfl,_,rfl⟩:=hv;obtain⟨b,off,rfl,aL⟩:=hc (by omega);obtain⟨c0,c1,c2,c3⟩:=lG aL nI;have wX:=bP nI;obtain⟨da',dc,hdv,_⟩:=Jk x wX;have HS:=GY ps k x nI;have nJ:=vN ps (k+1);have pF:=hd x wX;have i1:(0:Int)<=(k:Int):=by omega
  have i2:(k:Int)<(ps.length:Int):=by omega
  have xL:=aJ.alloc aJ.size (.cells #[.string x.1.own,.int .i64 x.1.ty,.int .i64 x.1.tt,x.2] 60);have aGi:((jD (ps.take (k+1)):Nat):Int)=(jD (ps.take k):Int)+(x.1.da.length:Int):=by omega
  have ZI:(jD (ps.take k):Int)+(x.1.da.length:Int)<=2000000:=by omega
  have lT:500<jD (ps.take (k+1))->RB=false:=by
   intro hx;rw [HRB.out];simp;omega
  clear aL hc Jk CO wX nI;obtain⟨⟨o1,ty,tt,da⟩,dv⟩:=x;simp only at c0 c1 c2 c3 hdv aGi ZI xL
  subst hdv;generalize hz:jD (ps.take (k+1))=z1 at*;generalize jD (ps.take k)=z0 at*
  by_cases hgt:500<z1
  ·obtain rfl:RB=false:=lT hgt;have aS3:(500:Int)<(z0:Int)+(da.length:Int):=by omega
   clear HRB lT;go_wp2;go_ret;exact⟨rfl,xL⟩
  have aS3:(z0:Int)+(da.length:Int)<=500:=by omega
  clear lT;go_wp2;go_roundw
  case rel=>exact⟨k+1,by omega,by go_num,by rw [hz,aGi],by omega,xL⟩
  simp [intOf];omega
 have nS:k=ps.length:=by omega
 subst nS;rw [List.take_length] at hle;obtain rfl:RB=true:=by rw [HRB.out];simp;omega
 have i2:(ps.length:Int)<=(ps.length:Int):=by omega
 clear CO HRB;go_wp2;go_ret;exact⟨rfl,aJ⟩
theorem Nl(s:Sz)(dv:Value)(w:World)(h:Nm.dX w dv s.da)(hl:s.da.length<=1048576)(ho:s.own.size<=1048576)(hx:∀ x∈s.da,x.size<=1048576):
 Calls Tryz.prog 104 #[.agg #[.string s.own,.int .i64 s.ty,.int .i64 s.tt,dv]] w fun e w'=>∃ u,e=.returned u∧w'.ownsRow w.heap.size 29 5 u (fA s).length (bK (fA s))∧(s.da=[]->u=.slice none 0 0)∧Below w.heap.size w w':=by
 obtain⟨i0,hi,iJ,fP,fZ⟩:=info_parts Tryz.aAx;have Gn:=qP s;have xO:=fun(k:Nat) (d:ByteArray) (h:s.da[k]? =some d)=>WJ (s:=s) h
 generalize fA s=rs at*;obtain⟨o,ty,tt,da⟩:=s;simp only at*
 have aS4:=fun W=>zI o W (by omega)
 have aMw:=fun(x:ByteArray) (hm:x∈da) W=>zI x W (by have:=hx x hm;omega)
 have jF:=(aK w.heap.size w).alloc (aN _) (.cells #[.string o,.int .i64 ty,.int .i64 tt,dv] 60);have eF:=h.below jF;have MP:=aH w #[.string o,.int .i64 ty,.int .i64 tt,dv] 60;obtain⟨a,cap,rfl,gY,kK,TV,hc⟩:=eF;clear h hx;unfold maxLen at kK;go_enter Tryz.func104,Tryz.ntmps104;go_wp2;generalize w.alloc (.cells #[.string o,.int .i64 ty,.int .i64 tt,.slice a da.length cap] 60)=w0 at*
 have pJ:∀ W,Below w0.heap.size w0 W->∀ (k:Nat) (x:ByteArray),da[k]? =some x->∃ b off,a=some ⟨b,off,none⟩∧W.cell? ⟨b,off+k,none⟩=some (.string x):=by
  intro W hW k x hx;obtain⟨b,off,rfl,aL⟩:=hc (by intro h;rw [h] at hx;simp at hx);have h0:=aL k x hx;exact⟨b,off,rfl,(hW.cell (eB w0 _ h0)).trans h0⟩
 have FB:∀ W,Below w0.heap.size w0 W->W.cell? ⟨w.heap.size,0,none⟩=some (.string o)∧W.cell? ⟨w.heap.size,1,none⟩=some (.int .i64 ty)∧W.cell? ⟨w.heap.size,2,none⟩=some (.int .i64 tt)∧W.cell? ⟨w.heap.size,3,none⟩=some (.slice a da.length cap):=by
  intro W hW;have hb:=aB MP hW;exact⟨(aA hb 0).trans rfl,(aA hb 1).trans rfl,(aA hb 2).trans rfl,(aA hb 3).trans rfl⟩
 clear hc MP
 go_loopw [3,9] (fun vo vi wr=>∃ k:Nat,k<=da.length∧vi=.int .i64 k∧wr.ownsRow w0.heap.size 29 5 vo k (bK (rs.take k))∧(k=0->vo=.slice none 0 0)∧Below w0.heap.size w0 wr) (fun _ vi _=>da.length-(intOf vi).toNat)
 case atStart=>exact⟨0,dO _,rfl,⟨rfl,.inl ⟨rfl,rfl⟩⟩,fun _=>rfl,aK _ _⟩
 obtain⟨k,hk,rfl,oO,Mh,aJ⟩:=hrel
 by_cases bV:k<da.length
 ·obtain⟨x,hx⟩:∃ x,da[k]? =some x:=⟨_,bY bV⟩;obtain⟨b,off,rfl,Mg⟩:=pJ wr aJ k x hx;have aS5:=fun W=>aMw x (bP hx) W
  have HT:Hid (bK (rs.take k)++[.string o,.int .i64 ty,.int .i64 1,.int .i64 tt,.string x]=bK (rs.take (k+1))):=by
   show _=_
   rw [xO k x hx,jX];rfl
  have i1:(0:Int)<=(k:Int):=by omega
  have i2:(k:Int)<(da.length:Int):=by omega
  clear pJ xO hx aMw Mh;go_wp2_with fail
  refine wp_region_held_drew (S:=fun W=>Below w0.heap.size w0 W) (by kernel_rfl) aJ.drew fun aO=>?_;refine wpAnyH_take (i:=0) (v:=?_) rfl (by kernel_rfl) (by kernel_rfl) (by kernel_rfl) (fun _ _ _ h=>h) (Or.inl ⟨by rfl,?_⟩) (by assumption) ?_;rotate_left 1
  ·(intro W pE;obtain⟨z0,z1,z2,z3⟩:=FB W pE;go_simp;try (with_reducible rfl))
  refine wpAnyH_take (i:=1) (v:=?_) rfl (by kernel_rfl) (by kernel_rfl) (by kernel_rfl) (fun _ _ _ h=>h) (Or.inl ⟨by rfl,?_⟩) (by assumption) ?_;rotate_left 1
  ·(intro W pE;obtain⟨z0,z1,z2,z3⟩:=FB W pE;go_simp;try (with_reducible rfl))
  refine wpAnyH_take (i:=2) (v:=?_) rfl (by kernel_rfl) (by kernel_rfl) (by kernel_rfl) (fun _ _ _ h=>h) (Or.inl ⟨by rfl,?_⟩) (by assumption) ?_;rotate_left 1
  ·(intro W pE;obtain⟨z0,z1,z2,z3⟩:=FB W pE;go_simp;try (with_reducible rfl))
  refine wpAnyH_take (i:=4) (v:=?_) rfl (by kernel_rfl) (by kernel_rfl) (by kernel_rfl) (fun _ _ _ h=>h) (Or.inl ⟨by rfl,?_⟩) (by assumption) ?_;rotate_left 1
  ·(intro W pE;obtain⟨z0,z1,z2,z3⟩:=FB W pE;go_simp;try (with_reducible rfl))
  refine wpAnyH_take (i:=5) (v:=?_) rfl (by kernel_rfl) (by kernel_rfl) (by kernel_rfl) (fun _ _ _ h=>h) (Or.inl ⟨by rfl,?_⟩) (by assumption) ?_;rotate_left 1
  ·(intro W pE;obtain⟨z0,z1,z2,z3⟩:=FB W pE;go_simp;try (with_reducible rfl))
  refine wpAnyH_take (i:=6) (v:=?_) rfl (by kernel_rfl) (by kernel_rfl) (by kernel_rfl) (fun _ _ _ h=>h) (Or.inl ⟨by rfl,?_⟩) (by assumption) ?_;rotate_left 1
  ·(intro W pE;obtain⟨z0,z1,z2,z3⟩:=FB W pE;go_simp;try (with_reducible rfl))
  refine wpAnyH_take (i:=7) (v:=?_) rfl (by kernel_rfl) (by kernel_rfl) (by kernel_rfl) (fun _ _ _ h=>h) (Or.inl ⟨by rfl,?_⟩) (by assumption) ?_;rotate_left 1
  ·(intro W pE;obtain⟨z0,z1,z2,z3⟩:=FB W pE;go_simp;try (with_reducible rfl))
  refine wpAnyH_take (i:=8) (v:=?_) rfl (by kernel_rfl) (by kernel_rfl) (by kernel_rfl) (fun _ _ _ h=>h) (Or.inl ⟨by rfl,?_⟩) (by assumption) ?_;rotate_left 1
  ·(intro W pE;obtain⟨z0,z1,z2,z3⟩:=FB W pE;go_simp;try (with_reducible rfl))
  refine wpAnyH_ready (rs:=[3]) (by kernel_rfl) (by simp) ?_;refine AllReadyH.cons rfl (fun K hK=>?_) AllReadyH.nil;go_simp;refine(aS4 _).mono ?_;rintro e w3 ⟨rfl,DN⟩;have Nn:Below w0.heap.size w0 w3:=Below.trans aO (DN.mono aO.size);have oO3:=own_below (own_below oO (aK _ _).drew) DN;go_wp2_with fail
  refine hK.out _ _ Nn fun _=>?_;clear hK K;refine wpAnyH_ready (rs:=[9]) (by kernel_rfl) (by simp) ?_;refine AllReadyH.cons rfl (fun K hK=>?_) AllReadyH.nil;go_simp;refine(aS5 _).mono ?_;rintro e w4 ⟨rfl,pR⟩;have hS4:Below w0.heap.size w0 w4:=Below.trans Nn (pR.mono Nn.size);have oO4:=own_below oO3 pR;go_wp2_with fail
  refine hK.out _ _ hS4 fun _=>?_;clear hK K oO3 Nn;refine wpAnyH_take (i:=10) (v:=?_) rfl (by kernel_rfl) (by kernel_rfl) (by kernel_rfl) (fun _ _ _ h=>h) (Or.inl ⟨by rfl,?_⟩) (by assumption) ?_;rotate_left 1
  ·(intro W pE;obtain⟨z0,z1,z2,z3⟩:=FB W pE;go_simp;try (with_reducible rfl))
  refine wpAnyH_ready (rs:=[11]) (by kernel_rfl) (by simp) ?_;refine AllReadyH.cons rfl (fun K hK=>?_) AllReadyH.nil;go_simp;refine hK.out _ _ (hS4.alloc hS4.size _) fun _=>?_;clear hK K;refine wpAnyH_ready (rs:=[12]) (by kernel_rfl) (by simp) ?_;refine AllReadyH.cons rfl (fun K hK=>?_) AllReadyH.nil;refine iX rfl (.tmp 13) (.tmp 24) 30 rfl w0.heap.size 29 i0 _ 5 56 Tryz.underlying30 hi iJ fP fZ rfl (by decide) _ _ _ (by rfl) (own_below oO4 ((aK _ _).alloc (aN _) _)) ⟨w4.heap.size,0,none⟩ 1 1 [.string o,.int .i64 ty,.int .i64 1,.int .i64 tt,.string x] (by rfl) rfl (dU _ _ _) (by intro u hu;simp at hu;rcases hu with rfl|rfl|rfl|rfl|rfl<;>rfl) (by unfold maxLen;omega) (by omega) (by have:=hS4.size;simp;omega) ?_;intro va wa dD bZ _;rw [HT.out] at dD;have b4:Below w0.heap.size w0 wa:=(hS4.alloc hS4.size _).grown bZ (by have:=hS4.size;simp;omega) (fun k hk=>(oO4.lt k hk).1);refine hK.out _ _ b4 fun _=>?_;clear hK K bZ oO oO4 aO hS4;refine wpAnyH_take (i:=13) (v:=?_) rfl (by kernel_rfl) (by kernel_rfl) (by kernel_rfl) (fun _ _ _ h=>h) (Or.inl ⟨by rfl,?_⟩) (by assumption) ?_;rotate_left 1
  ·(intro W pE;obtain⟨z0,z1,z2,z3⟩:=FB W pE;go_simp;try (with_reducible rfl))
  refine wpAnyH_done (by kernel_rfl) ?_ _;obtain⟨z0,z1,z2,z3⟩:=FB _ b4;go_wp2;go_roundw
  case rel=>exact⟨k+1,by omega,by go_num,dD,fun h=>by omega,b4⟩
  simp [intOf];omega
 have nS:k=da.length:=by omega
 subst nS;have i2:(da.length:Int)<=(da.length:Int):=by omega
 clear pJ FB xO aMw;rw [List.take_of_length_le (by omega)] at oO;go_wp2;go_ret;refine⟨_,rfl,?_,fun h=>Mh (by rw [h];rfl),Nm.aC jF aJ⟩;rw [Gn];exact fQ oO jF.size
def ixR(xs:List Rr)(r:Rr):Int:=match xs.findIdx? (fun y=>KU y r) with
 |some k=>(k:Int)
 |none=> -1
theorem aMx{xs:List Rr}{r x:Rr}{k:Nat}(hx:xs[k]? =some x)(hb:∀ j y,j<k->xs[j]? =some y->KU y r=false)(h:KU x r=true):ixR xs r=(k:Int):=by
 have bV:=(dK hx).1;have hxe:=(dK hx).2
 have e:xs.findIdx? (fun y=>KU y r)=some k:=by
  rw [List.findIdx?_eq_some_iff_getElem];refine⟨bV,by rw [hxe];exact h,fun j hj=>?_⟩;have:=hb j _ hj (bY (by omega));simp [this]
 rw [ixR,e]
theorem aKd{xs:List Rr}{r:Rr}(hb:∀ j y,j<xs.length->xs[j]? =some y->KU y r=false):ixR xs r= -1:=by
 have e:xs.findIdx? (fun y=>KU y r)=none:=by
  rw [List.findIdx?_eq_none_iff];intro x hx;obtain⟨i,hi⟩:=List.mem_iff_getElem?.1 hx;exact hb i x (dK hi).1 hi
 rw [ixR,e]
theorem aMy(xs:List Rr)(r:Rr):decide (ixR xs r<0)= !zK xs r:=by
 rw [ixR,zK]
 cases e:xs.findIdx? (fun y=>KU y r) with
 |none=>
  rw [List.findIdx?_eq_none_iff] at e
  have:xs.any (fun y=>KU y r)=false:=by
   rw [List.any_eq_false];intro x hx;simp [e x hx]
  rw [this]
  rfl
 |some k=>
  obtain⟨h1,h2,-⟩:=List.findIdx?_eq_some_iff_getElem.1 e
  have:xs.any (fun y=>KU y r)=true:=by
   rw [List.any_eq_true];exact⟨_,List.getElem_mem h1,h2⟩
  rw [this];have:¬((k:Int)<0):=by omega
  simp [this]
theorem KJ{a b:Rr}:KU a b=(a.own.toList==b.own.toList&&a.ty==b.ty&&a.cl==b.cl&&a.tt==b.tt&&a.da.toList==b.da.toList):=by
 rw [KU,ByteArray.toList_eq,ByteArray.toList_eq,ByteArray.toList_eq,ByteArray.toList_eq]
theorem Gp(v:Value)(xs:List Rr)(r:Rr)(w:World)(h:bS w v xs.length 5 (bK xs))(hlen:xs.length<=1000000):
 Calls Tryz.prog 38 #[v,.agg #[.string r.own,.int .i64 r.ty,.int .i64 r.cl,.int .i64 r.tt,.string r.da]] w fun e w'=>e=.returned (.int .i64 (ixR xs r))∧Below w.heap.size w w':=by
 obtain⟨_,a,cap,rfl,gY,kK,hc⟩:=h;have HC:=Nm.aF hc;have b0:=(aK w.heap.size w).alloc (aN _) (.cells #[.string r.own,.int .i64 r.ty,.int .i64 r.cl,.int .i64 r.tt,.string r.da] 29);have k0:=aH w #[.string r.own,.int .i64 r.ty,.int .i64 r.cl,.int .i64 r.tt,.string r.da] 29;clear hc;go_enter Tryz.func38,Tryz.ntmps38;go_wp2;generalize w.alloc (.cells #[.string r.own,.int .i64 r.ty,.int .i64 r.cl,.int .i64 r.tt,.string r.da] 29)=w0 at*
 go_loopw [5] (fun i wr=>∃ k:Nat,k<=xs.length∧i=.int .i64 k∧Hid (∀ j y,j<k->xs[j]? =some y->KU y r=false)∧Below w0.heap.size w0 wr) (fun i _=>xs.length-(intOf i).toNat)
 case atStart=>exact⟨0,dO _,rfl,fun j y h=>absurd h (Nat.not_lt_zero _),aK _ _⟩
 obtain⟨k,hk,rfl,HB,aJ⟩:=hrel;have HW:=Nm.aF (Nm.aC b0 aJ)
 by_cases bV:k<xs.length
 ·obtain⟨x,hx⟩:∃ x,xs[k]? =some x:=⟨_,bY bV⟩;obtain⟨b,off,rfl,aL⟩:=HC.out (by omega);have put:∀ {i:Nat} {z:Value},w.cell? ⟨b,off+i,none⟩=some z->wr.cell? ⟨b,off+i,none⟩=some z:=fun h=>(HW.out.cell (eB w _ h)).trans h
  obtain⟨c0,c1,c2,c3,c4⟩:=gT (fun i y hy=>put (aL i y hy)) hx;have kk:=aB k0 aJ;have q0:wr.cell? ⟨w.heap.size,0,none⟩=some (.string r.own):=(aA kk 0).trans rfl;have q1:wr.cell? ⟨w.heap.size,1,none⟩=some (.int .i64 r.ty):=(aA kk 1).trans rfl;have q2:wr.cell? ⟨w.heap.size,2,none⟩=some (.int .i64 r.cl):=(aA kk 2).trans rfl;have q3:wr.cell? ⟨w.heap.size,3,none⟩=some (.int .i64 r.tt):=(aA kk 3).trans rfl;have q4:wr.cell? ⟨w.heap.size,4,none⟩=some (.string r.da):=(aA kk 4).trans rfl;have i1:(0:Int)<=(k:Int):=by omega
  have i2:(k:Int)<(xs.length:Int):=by omega
  clear put aL kk k0;cases e1:(x.own.toList==r.own.toList)
  ·have HQ:Hid (∀ j y,j<k+1->xs[j]? =some y->KU y r=false):=by
    intro j y hj hy
    rcases Nat.lt_or_ge j k with h|h
    ·exact HB.out j y h hy
    have e:j=k:=by omega
    subst e;rw [hx] at hy;cases hy
    rw [KJ];simp only [*];rfl
   clear HB hx;go_wp2;go_region
   go_wp2;go_roundw
   case rel=>exact⟨k+1,by omega,by go_num,HQ,aJ.drew⟩
   simp [intOf];omega
  cases e2:(x.ty==r.ty)
  ·have HQ:Hid (∀ j y,j<k+1->xs[j]? =some y->KU y r=false):=by
    intro j y hj hy
    rcases Nat.lt_or_ge j k with h|h
    ·exact HB.out j y h hy
    have e:j=k:=by omega
    subst e;rw [hx] at hy;cases hy
    rw [KJ];simp only [*];rfl
   clear HB hx;go_wp2;go_region
   go_wp2;go_roundw
   case rel=>exact⟨k+1,by omega,by go_num,HQ,aJ.drew⟩
   simp [intOf];omega
  cases e3:(x.cl==r.cl)
  ·have HQ:Hid (∀ j y,j<k+1->xs[j]? =some y->KU y r=false):=by
    intro j y hj hy
    rcases Nat.lt_or_ge j k with h|h
    ·exact HB.out j y h hy
    have e:j=k:=by omega
    subst e;rw [hx] at hy;cases hy
    rw [KJ];simp only [*];rfl
   clear HB hx;go_wp2;go_region
   go_wp2;go_roundw
   case rel=>exact⟨k+1,by omega,by go_num,HQ,aJ.drew⟩
   simp [intOf];omega
  cases e4:(x.tt==r.tt)
  ·have HQ:Hid (∀ j y,j<k+1->xs[j]? =some y->KU y r=false):=by
    intro j y hj hy
    rcases Nat.lt_or_ge j k with h|h
    ·exact HB.out j y h hy
    have e:j=k:=by omega
    subst e;rw [hx] at hy;cases hy
    rw [KJ];simp only [*];rfl
   clear HB hx;go_wp2;go_region
   go_wp2;go_roundw
   case rel=>exact⟨k+1,by omega,by go_num,HQ,aJ.drew⟩
   simp [intOf];omega
  cases e5:(x.da.toList==r.da.toList)
  ·have HQ:Hid (∀ j y,j<k+1->xs[j]? =some y->KU y r=false):=by
    intro j y hj hy
    rcases Nat.lt_or_ge j k with h|h
    ·exact HB.out j y h hy
    have e:j=k:=by omega
    subst e;rw [hx] at hy;cases hy
    rw [KJ];simp only [*];rfl
   clear HB hx;go_wp2;go_region
   go_wp2;go_roundw
   case rel=>exact⟨k+1,by omega,by go_num,HQ,aJ.drew⟩
   simp [intOf];omega
  have HE:=Nm.aF (aMx hx HB.out (by rw [KJ];simp only [e1,e2,e3,e4,e5];rfl));clear HB hx;go_wp2;go_region
  go_wp2;go_ret;exact⟨by rw [HE.out];rfl,HW.out.drew⟩
 have nS:k=xs.length:=by omega
 subst nS;have HE:=Nm.aF (aKd HB.out);clear HB k0;go_wp2;go_ret;exact⟨by rw [HE.out];rfl,HW.out⟩
theorem Au(v u:Value)(xs:List ByteArray)(w:World)(h:Nm.dX w v xs)(h':Nm.dX w u xs):
 Calls Tryz.prog 25 #[v,u] w fun e w'=>e=.returned (.bool true)∧Below w.heap.size w w':=by
 obtain⟨a,cap,rfl,gY,kK,_,hc⟩:=h;obtain⟨a',cap',rfl,VM,PD,_,DF⟩:=h';have hlen:xs.length<=maxLen:=by omega
 unfold maxLen at hlen;have dQ:((xs.length:Int) != (xs.length:Int))=false:=by simp
 clear gY kK VM PD;go_enter Tryz.func25,Tryz.ntmps25;go_wp2
 go_loopw [5] (fun i wr=>∃ k:Nat,k<=xs.length∧i=.int .i64 k∧Below w.heap.size w wr) (fun i _=>xs.length-(intOf i).toNat)
 case atStart=>exact⟨0,dO _,rfl,aK _ _⟩
 obtain⟨k,hk,rfl,aJ⟩:=hrel
 by_cases bV:k<xs.length
 ·obtain⟨x,hx⟩:∃ x,xs[k]? =some x:=⟨_,bY bV⟩;obtain⟨b,off,rfl,aL⟩:=hc (by intro e;rw [e] at bV;simp at bV);obtain⟨b',off',rfl,kU⟩:=DF (by intro e;rw [e] at bV;simp at bV);have put:∀ {B O:Nat} {z:Value},w.cell? ⟨B,O,none⟩=some z->wr.cell? ⟨B,O,none⟩=some z:=fun h=>(aJ.cell (eB w _ h)).trans h
  have c0:=put (aL k x hx);have d0:=put (kU k x hx);have i1:(0:Int)<=(k:Int):=by omega
  have i2:(k:Int)<(xs.length:Int):=by omega
  clear hc DF aL kU hx put;go_wp2;go_region
  go_wp2;go_roundw
  case rel=>exact⟨k+1,by omega,by go_num,aJ.drew⟩
  simp [intOf];omega
 clear hc DF;go_wp2;go_ret;exact⟨rfl,aJ⟩
theorem JI{w:World}{v:Value}{ps:List Zp}(h:gI w v ps):∃ a c,v=.slice a ps.length c∧ps.length<=maxLen:=by
 obtain⟨⟨_,a,c,e,h1,h2,_⟩,_⟩:=h;exact⟨a,c,e,by omega⟩
theorem Ve(o:ByteArray)(v u:Value)(ps qs:List Zp)(w:World)(h:gI w v ps)(h':gI w u qs)(hs:qs.map (·.1)=ps.map (·.1)):
 Calls Tryz.prog 8 #[.agg #[.string o,v],.agg #[.string o,u]] w fun e w'=>e=.returned (.bool true)∧Below w.heap.size w w':=by
 have hql:qs.length=ps.length:=by have:=congrArg List.length hs;simpa using this
 obtain⟨va,vc,rfl,pG⟩:=JI h;obtain⟨ua,uc,rfl,-⟩:=JI h';unfold maxLen at pG;have k1:=aH w #[.string o,.slice va ps.length vc] 25;have b1:=(aK w.heap.size w).alloc (aN _) (.cells #[.string o,.slice va ps.length vc] 25);have k2:=aR k1 (.cells #[.string o,.slice ua qs.length uc] 25);have kq:=aH (w.alloc (.cells #[.string o,.slice va ps.length vc] 25)) #[.string o,.slice ua qs.length uc] 25;rw [fV] at kq;have b2:=b1.alloc b1.size (.cells #[.string o,.slice ua qs.length uc] 25);rw [hql] at k2 kq b2 ⊢;have HZ:Hid (∀ W,Below w.heap.size w W->gI W (.slice va ps.length vc) ps∧gI W (.slice ua ps.length uc) qs):=fun W hW=>⟨h.below hW,by rw [<- hql];exact h'.below hW⟩
 have HS:=Nm.aF hs;have dQ:((ps.length:Int) != (ps.length:Int))=false:=by simp
 have lT:(o.toList != o.toList)=false:=by simp
 have r1:=fun i=>aA k2 i
 have r2:=fun i=>aA kq i
 clear h h' hs k1 b1 hql;go_enter Tryz.func8,Tryz.ntmps8;go_wp2
 go_loopw [5] (fun i wr=>∃ k:Nat,k<=ps.length∧i=.int .i64 k∧Below w.heap.size w wr∧bG wr w.heap.size #[.string o,.slice va ps.length vc] 25∧bG wr (w.heap.size+1) #[.string o,.slice ua ps.length uc] 25) (fun i _=>ps.length-(intOf i).toNat)
 case atStart=>exact⟨0,dO _,rfl,b2,k2,kq⟩
 clear k2 kq b2 r1 r2;obtain⟨k,hk,rfl,hb,ka,kb⟩:=hrel;have r1:=fun i=>aA ka i
 have r2:=fun i=>aA kb i
 by_cases bV:k<ps.length
 ·obtain⟨p,hp⟩:∃ p,ps[k]? =some p:=⟨_,bY bV⟩;obtain⟨s,pv⟩:=p
  obtain⟨qv,hq⟩:∃ qv,qs[k]? =some (s,qv):=by
   have h1:=congrArg (fun l=>l[k]?) HS.out;simp only [List.getElem?_map,hp,Option.map_some] at h1
   cases hq:qs[k]? with
   |none=>rw [hq] at h1;cases h1
   |some q=>
    rw [hq] at h1;obtain⟨s',qv⟩:=q;obtain rfl:s'=s:=gQ h1;exact⟨qv,rfl⟩
  obtain⟨fP,fZ⟩:=HZ.out wr hb;have sp:=fP.2 _ (bP hp);have sq:=fZ.2 _ (bP hq);obtain⟨pa,pc,rfl⟩:∃ a c,pv=.slice a s.da.length c:=by obtain⟨a,c,e,_⟩:=sp;exact⟨a,c,e⟩
  obtain⟨qa,qc,rfl⟩:∃ a c,qv=.slice a s.da.length c:=by obtain⟨a,c,e,_⟩:=sq;exact⟨a,c,e⟩
  obtain⟨⟨_,a9,c9,e9,_,_,De⟩,_⟩:=fP;simp only [iG] at e9;obtain⟨rfl,_,rfl⟩:=e9;obtain⟨⟨_,a8,c8,e8,_,_,hc8⟩,_⟩:=fZ;simp only [iG] at e8;obtain⟨rfl,hl8,rfl⟩:=e8;obtain⟨b,off,rfl,aL⟩:=De (by omega);obtain⟨b',off',rfl,kU⟩:=hc8 (by omega);obtain⟨c0,c1,c2,c3⟩:=lG aL hp;obtain⟨d0,d1,d2,d3⟩:=lG kU hq;have bA:=((aK wr.heap.size wr).alloc (aN _) (.cells #[.string s.own,.int .i64 s.ty,.int .i64 s.tt,(.slice pa s.da.length pc)] 60)).alloc (by simp) (.cells #[.string s.own,.int .i64 s.ty,.int .i64 s.tt,(.slice qa s.da.length qc)] 60);have kx:=aR (aH wr #[.string s.own,.int .i64 s.ty,.int .i64 s.tt,(.slice pa s.da.length pc)] 60) (.cells #[.string s.own,.int .i64 s.ty,.int .i64 s.tt,(.slice qa s.da.length qc)] 60);have ky:=aH (wr.alloc (.cells #[.string s.own,.int .i64 s.ty,.int .i64 s.tt,(.slice pa s.da.length pc)] 60)) #[.string s.own,.int .i64 s.ty,.int .i64 s.tt,(.slice qa s.da.length qc)] 60;rw [fV] at ky;have oG:=Au (.slice pa s.da.length pc) (.slice qa s.da.length qc) s.da _ (sp.below bA) (sq.below bA);have kaA:=aB ka bA;have kbA:=aB kb bA;have hbA:=Nm.aC hb bA;have rx:=fun i=>aA kx i
  have ry:=fun i=>aA ky i
  have rb:=fun i=>aA (aR kb (.cells #[.string s.own,.int .i64 s.ty,.int .i64 s.tt,(.slice pa s.da.length pc)] 60)) i
  have i1:(0:Int)<=(k:Int):=by omega
  have i2:(k:Int)<(ps.length:Int):=by omega
  have hn1:(s.own.toList != s.own.toList)=false:=by simp
  have hn2:(s.ty != s.ty)=false:=by simp
  have hn3:(s.tt != s.tt)=false:=by simp
  have e0:(wr.alloc (.cells #[.string s.own,.int .i64 s.ty,.int .i64 s.tt,(.slice pa s.da.length pc)] 60)).cell? ⟨b',off'+k*4,none⟩=some (.string s.own):=(((aK wr.heap.size wr).alloc (aN _) _).cell (eB wr _ d0)).trans d0;have e1:(wr.alloc (.cells #[.string s.own,.int .i64 s.ty,.int .i64 s.tt,(.slice pa s.da.length pc)] 60)).cell? ⟨b',off'+k*4+1,none⟩=some (.int .i64 s.ty):=(((aK wr.heap.size wr).alloc (aN _) _).cell (eB wr _ d1)).trans d1;have e2:(wr.alloc (.cells #[.string s.own,.int .i64 s.ty,.int .i64 s.tt,(.slice pa s.da.length pc)] 60)).cell? ⟨b',off'+k*4+2,none⟩=some (.int .i64 s.tt):=(((aK wr.heap.size wr).alloc (aN _) _).cell (eB wr _ d2)).trans d2;have e3:(wr.alloc (.cells #[.string s.own,.int .i64 s.ty,.int .i64 s.tt,(.slice pa s.da.length pc)] 60)).cell? ⟨b',off'+k*4+3,none⟩=some (.slice qa s.da.length qc):=(((aK wr.heap.size wr).alloc (aN _) _).cell (eB wr _ d3)).trans d3;have HC:=Nm.aF (aV hbA (aV kaA kbA));generalize s.own=ow at*;generalize s.ty=ty at*;generalize s.tt=tt at*;generalize s.da.length=dl at*;clear De hc8 aL kU sp sq bA kx ky hbA kaA kbA d0 d1 d2 d3 hp hq hl8;go_wp2_with fail
  refine oG.mono ?_;rintro e w2 ⟨rfl,b2⟩;have k2a:=aB HC.out.2.1 b2;have k2b:=aB HC.out.2.2 b2;have bw:=Nm.aC HC.out.1 b2;clear oG rx ry rb e0 e1 e2 e3 c0 c1 c2 c3 HC b2;go_wp2;go_roundw
  case rel=>exact⟨k+1,by omega,by go_num,bw,k2a,k2b⟩
  simp [intOf];omega
 have i2:¬(k:Int)<(ps.length:Int):=by omega
 go_wp2;go_ret;exact⟨rfl,hb⟩
