import Derived.Test.YtgilkakllagbnaaGreatHcA
import Derived.Test.YtgilkakllagbnaaGreatJCgS
import Derived.Test.YtgilkakllagbnaaGreatJDzY
import Derived.Test.YtgilkakllagbnaaGreatJRrM
namespace Go.Proofs.YtgilkakllagbnaaGreat
open Go.RowKit
set_option linter.unusedVariables false
def hs1(c:Cg):Nat:=c.old.own.size+c.old.da.size+(c.new.own.size+c.new.da.size)+(c.del.length+rsum c.del)+(c.add.length+rsum c.add)
def hsum:List Hp->Nat
 |[]=>0
 |x::xs=>hs1 x.1+hsum xs
theorem hsum_step:∀ (xs:List Hp) (k:Nat) (x:Hp),xs[k]? =some x->hsum (xs.take (k+1))=hsum (xs.take k)+hs1 x.1:=by
 intro xs
 induction xs with
 |nil=>intro k x h;simp at h
 |cons y xs ih=>
  intro k x h
  cases k with
  |zero=>simp at h;subst h;simp [hsum]
  |succ k=>
   simp at h;have:=ih k x h;simp only [List.take_succ_cons,hsum];omega
theorem hsum_take_le:∀ (xs:List Hp) (k:Nat),hsum (xs.take k)<=hsum xs:=by
 intro xs
 induction xs with
 |nil=>intro k;simp [hsum]
 |cons y xs ih=>
  intro k
  cases k with
  |zero=>simp [hsum]
  |succ k=>have:=ih k;simp only [List.take_succ_cons,hsum];omega
theorem hsum_mem:∀ (xs:List Hp) (x:Hp),x∈xs->hs1 x.1<=hsum xs:=by
 intro xs
 induction xs with
 |nil=>intro x h;simp at h
 |cons y xs ih=>
  intro x h
  rcases List.mem_cons.1 h with rfl|h
  ·simp only [hsum];omega
  ·have:=ih x h;simp only [hsum];omega
def szH1(c:Cg)(L:Int):Int:=if(hs1 c:Int)<=L then L-hs1 c else -1
def szHS(ps:List Hp)(L:Int):Int:=if(ps.length:Int)+(hsum ps:Int)<=L then L-ps.length-hsum ps else -1
theorem szC_one(c:Cg)(L:Int):szC c.old c.new c.del c.add L=szH1 c L:=by
 obtain⟨a,b,xs,ys⟩:=c;simp only [szC,szH1,hs1,szR,szRS]
 repeat' split
 all_goals omega
def HFit(ps:List Hp):Prop:=∀ p∈ps,RFit p.1.old∧RFit p.1.new∧(∀ r∈p.1.del,RFit r)∧∀ r∈p.1.add,RFit r
set_option maxRecDepth 100000 in
set_option maxHeartbeats 1600000 in
theorem szChangeS_any(v:Value)(ps:List Hp)(L:Int)(w:World)(h:HRow w v ps)(hx:HFit ps)(h0:0<=L)(h1:L<=1048576):
 Calls Tryz.prog 5 #[v,.int .i64 L] w fun e w'=>e=.returned (.int .i64 (szHS ps L))∧Below w.heap.size w w':=by
 have hsl:=fun(p:Hp) (hp:p∈ps)=>h.sl hp
 obtain⟨⟨_,a,cap,rfl,hcap,hmx,hc⟩,hd⟩:=h;unfold maxLen at hmx
 by_cases hm:L<ps.length
 ·have HS:Hid (szHS ps L= -1):=if_neg (by omega);have hm':L-(ps.length:Int)<0:=by omega
  clear hx hc hd hsl;go_enter Tryz.func5,Tryz.ntmps5;go_wp2;go_ret;rw [HS.out];exact⟨rfl,Below.refl _ _⟩
 ·have hl:(ps.length:Int)<=1048576:=by omega
  have hm':(0:Int)<=L-(ps.length:Int):=by omega
  have hsz:=fun(p:Hp) (hp:p∈ps) (K:Int) (W:World) (hW:Below w.heap.size w W) (h0:0<=K) (h1:K<=1048576)=>szChange_any p.1.old p.1.new p.2.1 p.2.2 p.1.del p.1.add K W ((hd p hp).1.below hW) ((hd p hp).2.below hW) (hx p hp).1 (hx p hp).2.1 (hx p hp).2.2.1 (hx p hp).2.2.2 h0 h1
  clear hd;go_enter Tryz.func5,Tryz.ntmps5;go_wp2
  go_loopw [1,5] (fun t i wr=>∃ k:Nat,k<=ps.length∧i=.int .i64 k∧t=.int .i64 (L-ps.length-hsum (ps.take k))∧Hid ((ps.length:Int)+hsum (ps.take k)<=L)∧Below w.heap.size w wr) (fun _ i _=>ps.length-(intOf i).toNat)
  case atStart=>exact⟨0,Nat.zero_le _,rfl,by simp [hsum],by show _<=L;simp [hsum];omega,Below.refl _ _⟩
  case round=>
   obtain⟨k,hk,rfl,rfl,hle,hbel⟩:=hrel
   by_cases hlt:k<ps.length
   ·obtain⟨x,hxk⟩:∃ x,ps[k]? =some x:=⟨_,List.getElem?_eq_getElem hlt⟩;obtain⟨b,off,rfl,hcell⟩:=hc (by omega);obtain⟨⟨c0,c1,c2,c3,c4⟩,⟨c5,c6,c7,c8,c9⟩,c10,c11⟩:=hp_cells (hp_put hbel hcell) hxk;obtain⟨⟨xa,xc,hx1⟩,ya,yc,hx2⟩:=hsl x (List.mem_of_getElem? hxk);have HS:Hid (hsum (ps.take (k+1))=hsum (ps.take k)+hs1 x.1):=hsum_step ps k x hxk;have hs1':Hid (hsum (ps.take (k+1))<=hsum ps):=hsum_take_le ps (k+1);have hone:=hsz x (List.mem_of_getElem? hxk) (L-ps.length-hsum (ps.take k)) wr hbel (by have:=hle.out;omega) (by omega);rw [szC_one] at hone;have i1:(0:Int)<=(k:Int):=by omega
    have i2:(k:Int)<(ps.length:Int):=by omega
    by_cases hb:(hs1 x.1:Int)<=L-ps.length-hsum (ps.take k)
    ·have e1:szH1 x.1 (L-ps.length-hsum (ps.take k))=L-ps.length-hsum (ps.take (k+1)):=by
      have:=HS.out;rw [szH1,if_pos hb];omega
     have hnn:0<=L-(ps.length:Int)-hsum (ps.take (k+1)):=by have:=HS.out;omega
     have hle2:Hid ((ps.length:Int)+hsum (ps.take (k+1))<=L):=by show _<=L;omega
     rw [e1] at hone;clear hxk hcell hc hx hsz HS hb e1 hs1' hsl;generalize hL2:(L-(ps.length:Int)-(hsum (ps.take (k+1)):Int))=L2 at*;generalize (L-(ps.length:Int)-(hsum (ps.take k):Int))=L1 at*;obtain⟨⟨xo,xn,xd,xe⟩,xv,xu⟩:=x;simp only at c0 c1 c2 c3 c4 c5 c6 c7 c8 c9 c10 c11 hx1 hx2 hone
     subst hx1 hx2;go_wp2_with (go_at_call 18;refine hone.mono ?_;rintro e w1 ⟨rfl,hb1⟩)
     go_roundw
     case rel=>exact⟨k+1,by omega,by go_num,by rw [hL2],hle2,Nm.below_two hbel hb1⟩
     case measure=>simp [intOf];omega
    ·have HZ:Hid (szHS ps L= -1):=if_neg (by have:=HS.out;have:=hs1'.out;omega);have e1:szH1 x.1 (L-ps.length-hsum (ps.take k))= -1:=if_neg hb;rw [e1] at hone;clear hxk hcell hc hx hsz HS hb e1 hs1' hsl;generalize (L-(ps.length:Int)-(hsum (ps.take k):Int))=L1 at*;obtain⟨⟨xo,xn,xd,xe⟩,xv,xu⟩:=x;simp only at c0 c1 c2 c3 c4 c5 c6 c7 c8 c9 c10 c11 hx1 hx2 hone
     subst hx1 hx2;go_wp2_with (go_at_call 18;refine hone.mono ?_;rintro e w1 ⟨rfl,hb1⟩)
     go_ret;rw [HZ.out];exact⟨rfl,Nm.below_two hbel hb1⟩
   ·have hkl:k=ps.length:=by omega
    have HZ:Hid (szHS ps L=L-ps.length-hsum (ps.take k)):=by
     have:=hle.out;rw [hkl,List.take_length] at this ⊢;exact if_pos this
    have i2:(ps.length:Int)<=(k:Int):=by omega
    clear hc hx hsz hsl;generalize (L-(ps.length:Int)-(hsum (ps.take k):Int))=L1 at*;go_wp2;go_ret;rw [HZ.out];exact⟨rfl,hbel⟩
section
open Go.Deep
variable {H:Type}{enc:TypeId×Value->H}{w:World}{base:Nat}{held:Bool}
set_option maxRecDepth 100000 in
theorem open_chg{fuel:Nat}{cs:List Value}{x:DataW H×List MemPlace}(h:DataW.trod enc Tryz.prog w base (fun _=>true) held fuel 50 cs=some x)(hl:cs.length=12):
 ∃ p:Hp,cs=hpV p∧(CRow w p.2.1 p.1.del.length 5 (rvVs p.1.del)∧CRow w p.2.2 p.1.add.length 5 (rvVs p.1.add))∧RFit p.1.old∧RFit p.1.new∧(∀ r∈p.1.del,RFit r)∧∀ r∈p.1.add,RFit r:=by
 obtain⟨c5,cs1,cm⟩:=cg_c;obtain⟨zs,n,_,_,_,hxl,hf⟩:=DataW.trod_struct Tryz.underlying50 h
 match cs,hl with
 |[v0,v1,v2,v3,v4,v5,v6,v7,v8,v9,v10,v11],_=>
  have g0:=hf 0 _ rfl;have g1:=hf 1 _ rfl;have g2:=hf 2 _ rfl;have g3:=hf 3 _ rfl
  match zs,hxl with
  |[y0,y1,y2,y3],_=>
   simp [c5,cs1] at g0 g1 g2 g3
   obtain⟨a,e0,f0⟩:=open_rr g0 rfl;obtain⟨b,e1,f1⟩:=open_rr g1 rfl;obtain⟨xs,q1,q2⟩:=open_rrs Tryz.underlying48 g2;obtain⟨ys,u1,u2⟩:=open_rrs Tryz.underlying48 g3;simp [rvV] at e0 e1
   obtain⟨rfl,rfl,rfl,rfl,rfl⟩:=e0;obtain⟨rfl,rfl,rfl,rfl,rfl⟩:=e1;exact⟨(⟨a,b,xs,ys⟩,v10,v11),rfl,⟨q1,u1⟩,f0,f1,q2,u2⟩
theorem choose_hp{n:Nat}{p:Nat->Hp->Prop}(h:∀ i,i<n->∃ x,p i x):∃ f:Nat->Hp,∀ i,i<n->p i (f i):=by
 classical
 refine⟨fun i=>if hi:i<n then Classical.choose (h i hi) else(⟨⟨.empty,0,0,0,.empty⟩,⟨.empty,0,0,0,.empty⟩,[],[]⟩,.slice none 0 0,.slice none 0 0),fun i hi=>?_⟩;simp only [dif_pos hi];exact Classical.choose_spec (h i hi)
set_option maxRecDepth 100000 in
theorem open_chgs{t:TypeId}{fuel:Nat}{v:Value}{x:DataW H×List MemPlace}(ht:Tryz.prog.underlying t=some (.slice 50))(h:DataW.trod enc Tryz.prog w base (fun _=>true) held fuel t [v]=some x):
 ∃ ps:List Hp,HRow w v ps∧HFit ps:=by
 rcases open_slice ht h with⟨e,_⟩|⟨a,len,cap,m,n,D,Pl,e,hb,hl,hm,hmm,_,hx⟩
 ·simp at e;subst e;exact⟨[],⟨⟨rfl,none,0,rfl,Nat.le_refl _,by decide,fun h=>absurd h (by simp)⟩,by simp⟩,by intro p hp;simp at hp⟩
 ·simp at e;subst e;have hlm:len<=m:=by rw [hmm];split<;>omega
  obtain⟨_,_,c4⟩:=cg_c;rw [c4] at hx
  obtain⟨f,hf⟩:=choose_hp (n:=len) (p:=fun i r=>(∀ j,j<12->w.cell? ((a.add (i*12)).add j)=(hpV r)[j]?)∧(CRow w r.2.1 r.1.del.length 5 (rvVs r.1.del)∧CRow w r.2.2 r.1.add.length 5 (rvVs r.1.add))∧RFit r.1.old∧RFit r.1.new∧(∀ q∈r.1.del,RFit q)∧∀ q∈r.1.add,RFit q) (fun i hi=>by
   obtain⟨cs',h1,h2⟩:=hx i (by omega);obtain⟨_,hlen,hcell⟩:=World.cells?_some h1;obtain⟨r,rfl,q⟩:=open_chg h2 hlen
   exact⟨r,hcell,q⟩)
  refine⟨(List.range len).map f,⟨⟨?_,some a,cap,by simp,by simpa using hl,hm,fun hpos=>?_⟩,?_⟩,?_⟩
  ·rw [hpVs_len]
  ·have hlen:0<len:=by simpa using hpos
   obtain⟨b,off,spot⟩:=a;have h0:=(hf 0 hlen).1 0 (by decide);have h0':w.cell? ((Addr.mk b off spot).add (0*12+0))=some (.string (f 0).1.old.own):=by rw [<- add_add];exact h0
   have hspot:spot=none:=by simpa [Addr.add] using World.cell?_spot h0'
   subst hspot;refine⟨b,off,rfl,?_⟩;intro i y hy
   have hi:i<len*12:=by
    have:=(List.getElem?_eq_some_iff.1 hy).1;rw [hpVs_len] at this;simpa using this
   obtain⟨k,j,hk,hj,rfl⟩:∃ k j,k<len∧j<12∧i=k*12+j:=⟨i / 12,i % 12,by omega,by omega,by omega⟩;rw [hpVs_at _ k j (f k) (by simp [hk]) hj] at hy;have:=(hf k hk).1 j hj;rw [add_add,hy,Nm.addr_add] at this;exact this
  ·intro p hp;simp only [List.mem_map,List.mem_range] at hp;obtain⟨i,hi,rfl⟩:=hp;exact(hf i hi).2.1
  ·intro p hp;simp only [List.mem_map,List.mem_range] at hp;obtain⟨i,hi,rfl⟩:=hp;exact(hf i hi).2.2
end
set_option maxRecDepth 100000 in
set_option maxHeartbeats 3200000 in
theorem eqChangeS_any(v u:Value)(qs rs:List Hp)(w:World)(h:HRow w v qs)(h':HRow w u rs)(he:qs.map (·.1)=rs.map (·.1)):
 Calls Tryz.prog 12 #[v,u] w fun e w'=>e=.returned (.bool true)∧Below w.heap.size w w':=by
 have hlen:rs.length=qs.length:=by have:=congrArg List.length he;simpa using this.symm
 have hsl:=fun(p:Hp) (hp:p∈qs)=>h.sl hp
 have hsl':=fun(p:Hp) (hp:p∈rs)=>h'.sl hp
 obtain⟨⟨_,a,cap,rfl,hcap,hmx,hc⟩,hq⟩:=h;obtain⟨⟨_,a',cap',rfl,hcap',hmx',hc'⟩,hr⟩:=h';unfold maxLen at hmx hmx';rw [hlen] at hcap' hc' ⊢;have hne:((qs.length:Int) != (qs.length:Int))=false:=by simp
 go_enter Tryz.func12,Tryz.ntmps12;go_wp2
 go_loopw [5] (fun i wr=>∃ k:Nat,k<=qs.length∧i=.int .i64 k∧Below w.heap.size w wr) (fun i _=>qs.length-(intOf i).toNat)
 case atStart=>exact⟨0,Nat.zero_le _,rfl,Below.refl _ _⟩
 case round=>
  obtain⟨k,hk,rfl,hbel⟩:=hrel
  by_cases hlt:k<qs.length
  ·obtain⟨x,hx⟩:∃ x,qs[k]? =some x:=⟨_,List.getElem?_eq_getElem hlt⟩;obtain⟨y,hy⟩:∃ y,rs[k]? =some y:=⟨_,List.getElem?_eq_getElem (by omega)⟩
   have hxy:y.1=x.1:=by
    have:=congrArg (fun l=>l[k]?) he;simp [hx,hy] at this
    exact this.symm
   obtain⟨b,off,rfl,hcell⟩:=hc (by omega);obtain⟨b',off',rfl,hcell'⟩:=hc' (by omega);have HX:=fun W (hW:Below w.heap.size w W)=>hp_cells (hp_put hW hcell) hx
   have HY:=fun W (hW:Below w.heap.size w W)=>hp_cells (hp_put hW hcell') hy
   have s1:=hq x (List.mem_of_getElem? hx);have s2:=hr y (List.mem_of_getElem? hy);obtain⟨⟨xa,xc,hx1⟩,ya,yc,hx2⟩:=hsl x (List.mem_of_getElem? hx);obtain⟨⟨xa',xc',hy1⟩,ya',yc',hy2⟩:=hsl' y (List.mem_of_getElem? hy);rw [hxy] at s2 hy1 hy2;obtain⟨⟨xo,xn,xd,xe⟩,xv,xu⟩:=x;obtain⟨yc0,yv,yu⟩:=y;simp only at hxy s1 s2 hx1 hx2 hy1 hy2
   subst hxy hx1 hx2 hy1 hy2;have heq:=fun W (hW:Below w.heap.size w W)=>eqChange_any xo xn _ _ _ _ xd xe W (s1.1.below hW) (s1.2.below hW) (s2.1.below hW) (s2.2.below hW)
   have HHX:=Nm.hide HX;have HHY:=Nm.hide HY;have i1:(0:Int)<=(k:Int):=by omega
   have i2:(k:Int)<(qs.length:Int):=by omega
   clear hc hc' hcell hcell' hx hy s1 s2 hq hr he hsl hsl' HX HY;go_upto_region 6 with fail
   have bd:=hbel.drew;refine wp_region_last (fun X=>Below w.heap.size w X) 1000 (by kernel_rfl) bd (fun hHeld=>?_);refine wpAnyL_take (i:=0) (v:=?_) rfl (by kernel_rfl) (by kernel_rfl) (by kernel_rfl) (by kernel_rfl) (fun _ _ _ h=>h) (Or.inl ⟨by kernel_rfl,?_⟩) (by assumption) ?_;rotate_left 1
   ·(rintro W sW;go_simp;try (with_reducible rfl))
   refine wpAnyL_take (i:=1) (v:=?_) rfl (by kernel_rfl) (by kernel_rfl) (by kernel_rfl) (by kernel_rfl) (fun _ _ _ h=>h) (Or.inl ⟨by kernel_rfl,?_⟩) (by assumption) ?_;rotate_left 1
   ·(rintro W sW;go_simp;try (with_reducible rfl))
   refine wpAnyL_take (i:=2) (v:=?_) rfl (by kernel_rfl) (by kernel_rfl) (by kernel_rfl) (by kernel_rfl) (fun _ _ _ h=>h) (Or.inl ⟨by kernel_rfl,?_⟩) (by assumption) ?_;rotate_left 1
   ·(rintro W sW;go_simp;try (with_reducible rfl))
   refine wpAnyL_take (i:=3) (v:=?_) rfl (by kernel_rfl) (by kernel_rfl) (by kernel_rfl) (by kernel_rfl) (fun _ _ _ h=>h) (Or.inl ⟨by kernel_rfl,?_⟩) (by assumption) ?_;rotate_left 1
   ·(rintro W sW;obtain⟨⟨c0,c1,c2,c3,c4⟩,⟨c5,c6,c7,c8,c9⟩,c10,c11⟩:=HHX.out W sW;go_simp;try (with_reducible rfl))
   refine wpAnyL_take (i:=4) (v:=?_) rfl (by kernel_rfl) (by kernel_rfl) (by kernel_rfl) (by kernel_rfl) (fun _ _ _ h=>h) (Or.inl ⟨by kernel_rfl,?_⟩) (by assumption) ?_;rotate_left 1
   ·(rintro W sW;go_simp;try (with_reducible rfl))
   refine wpAnyL_take (i:=5) (v:=?_) rfl (by kernel_rfl) (by kernel_rfl) (by kernel_rfl) (by kernel_rfl) (fun _ _ _ h=>h) (Or.inl ⟨by kernel_rfl,?_⟩) (by assumption) ?_;rotate_left 1
   ·(rintro W sW;go_simp;try (with_reducible rfl))
   refine wpAnyL_take (i:=6) (v:=?_) rfl (by kernel_rfl) (by kernel_rfl) (by kernel_rfl) (by kernel_rfl) (fun _ _ _ h=>h) (Or.inl ⟨by kernel_rfl,?_⟩) (by assumption) ?_;rotate_left 1
   ·(rintro W sW;go_simp;try (with_reducible rfl))
   refine wpAnyL_take (i:=7) (v:=?_) rfl (by kernel_rfl) (by kernel_rfl) (by kernel_rfl) (by kernel_rfl) (fun _ _ _ h=>h) (Or.inl ⟨by kernel_rfl,?_⟩) (by assumption) ?_;rotate_left 1
   ·(rintro W sW;obtain⟨⟨c0,c1,c2,c3,c4⟩,⟨c5,c6,c7,c8,c9⟩,c10,c11⟩:=HHY.out W sW;go_simp;try (with_reducible rfl))
   refine wpAnyL_one (i:=8) (by kernel_rfl) rfl (fun K hK=>?_);go_simp;refine(heq _ bd).mono ?_;rintro e w2 ⟨rfl,b2⟩;have bw2:=Nm.below_two bd b2;go_wp2_with fail
   refine hK.out _ _ bw2 (fun hHeld=>?_);clear hK K;refine wpAnyL_take (i:=9) (v:=?_) rfl (by kernel_rfl) (by kernel_rfl) (by kernel_rfl) (by kernel_rfl) (fun _ _ _ h=>h) (Or.inl ⟨by kernel_rfl,?_⟩) (by assumption) ?_;rotate_left 1
   ·(rintro W sW;go_simp;try (with_reducible rfl))
   refine wpAnyL_done (by kernel_rfl) ?_;go_simp;clear heq HHX HHY;go_wp2;go_roundw
   case rel=>exact⟨k+1,by omega,by go_num,bw2⟩
   case measure=>simp [intOf];omega
  ·clear hc hc' hq hr hsl hsl';have i2:(qs.length:Int)<=(k:Int):=by omega
   go_wp2;go_ret;exact⟨rfl,hbel⟩
end Go.Proofs.YtgilkakllagbnaaGreat
