import Derived.Test.YtcodajnebegdiaaGreatJLoF
import Derived.Test.YtcodajnebegdiaaGreatJLoC
import Derived.Deep.RegionHeld3
import Derived.Test.YtcodajnebegdiaaGreatJBzU
import Derived.Test.YtcodajnebegdiaaGreatJMath
import Derived.Test.YtcodajnebegdiaaGreatJCzM
import Derived.Test.YtcodajnebegdiaaGreatJZbA
import Derived.Deep.Slices
import Derived.Deep.Strs
import Derived.ChangeSame
import Derived.RegionTactic
namespace Go.Proofs.YtcodajnebegdiaaGreat
open Go.RowKit
set_option linter.unusedVariables false
set_option maxRecDepth 100000 in
set_option maxHeartbeats 1600000 in
theorem heldSetS_any(v:Value)(qs:List Zp)(k:Nat)(w:World)(h:ZRow w v (mkZ k qs))(hn:zl qs<=400000)(hk:k<=100000):
 Calls Tryz.prog 28 #[v,.int .i64 (k:Int)] w fun e w'=>e=.returned (.int .i64 ((k+zl qs:Nat):Int))∧Below w.heap.size w w':=by
 obtain⟨⟨_,a,cap,e0,hcap,hmx,hc⟩,hd⟩:=h;rw [mkZ_len] at*;subst e0;have hql:=zl_len qs;go_enter Tryz.func28,Tryz.ntmps28;go_wp2
 go_loopw [1,5] (fun t i wr=>∃ j:Nat,j<=qs.length∧i=.int .i64 (j:Int)∧t=.int .i64 ((k:Int)+(zl (qs.take j):Int))∧Below w.heap.size w wr) (fun _ i _=>qs.length-(intOf i).toNat)
 case atStart=>exact⟨0,Nat.zero_le _,rfl,by simp [zl],Below.refl _ _⟩
 case round=>
  obtain⟨j,hj,rfl,rfl,hbel⟩:=hrel
  by_cases hlt:j<qs.length
  ·obtain⟨q,hq⟩:∃ q,qs[j]? =some q:=⟨_,List.getElem?_eq_getElem hlt⟩;obtain⟨b,off,rfl,hcell⟩:=hc (by omega);have hmq:=mkZ_get qs k j q hq;obtain⟨c0,c1,c2,c3⟩:=zp_cells hcell hmq;have hsr:=hd _ (List.mem_of_getElem? hmq);simp only [mkZp] at c0 c1 c2 c3 hsr;have hst:=zl_step qs j q hq;have hle:=zl_take_le qs (j+1);have hzb:zl (qs.take j)<=400000:=by omega
   have hsr9:=hsr;obtain⟨qa,qc,eq,_⟩:=hsr9;rw [mks_len] at eq;rw [eq] at c3 hsr;have hhs:=fun W (hW:Below w.heap.size w W)=>heldStringS_any (.slice qa q.1.da.length qc) q.1.da.length (k+zl (qs.take j)+3) W (hsr.below hW) (by omega) (by omega)
   rw [show((k+zl (qs.take j)+3:Nat):Int)=(k:Int)+(zl (qs.take j):Int)+1+1+1 by omega,show((k+zl (qs.take j)+3+q.1.da.length:Nat):Int)=(k:Int)+(zl (qs.take (j+1)):Int) by omega] at hhs;rw [show((k+zl (qs.take j)+1:Nat):Int)=(k:Int)+(zl (qs.take j):Int)+1 by omega] at c1;rw [show((k+zl (qs.take j)+2:Nat):Int)=(k:Int)+(zl (qs.take j):Int)+1+1 by omega] at c2;have hS:∀ W,Below w.heap.size w W->W.cell? ⟨b,off+j*4,none⟩=some (.string (mkS (k+zl (qs.take j))))∧Below w.heap.size w W:=fun W hW=>⟨(hW.cell (World.block_lt_of_cell? w _ c0)).trans c0,hW⟩
   have hS12:∀ W,Below w.heap.size w W->W.cell? ⟨b,off+j*4+1,none⟩=some (.int .i64 ((k:Int)+(zl (qs.take j):Int)+1))∧W.cell? ⟨b,off+j*4+2,none⟩=some (.int .i64 ((k:Int)+(zl (qs.take j):Int)+1+1))∧W.cell? ⟨b,off+j*4+3,none⟩=some (.slice qa q.1.da.length qc):=fun W hW=>⟨(hW.cell (World.block_lt_of_cell? w _ c1)).trans c1,(hW.cell (World.block_lt_of_cell? w _ c2)).trans c2,(hW.cell (World.block_lt_of_cell? w _ c3)).trans c3⟩
   have hS0:=hS wr.drew hbel.drew;have hmt:=fun W (hW:Below w.heap.size w W)=>(markText_any (k+zl (qs.take j)) W (by omega)).mono (R':=fun e w'=>e=.returned (.string (mkS (k+zl (qs.take j))))∧Below w.heap.size w w') (by rintro e w' ⟨he,hb⟩;exact⟨he,hW.trans (hb.mono hW.size)⟩)
   rw [show(((k+zl (qs.take j):Nat)):Int)=(k:Int)+(zl (qs.take j):Int) by omega] at hmt;have hfin:0<=(k:Int)+(zl (qs.take (j+1)):Int):=by omega
   have hbig:zl (qs.take (j+1))<=400000:=by omega
   generalize hz0:zl (qs.take j)=z0 at*;clear hz0 hst;generalize hz1:zl (qs.take (j+1))=z1 at*;have HZ1:=Nm.hide hz1;clear hz1;obtain⟨e3,e4⟩:((mkS (k+z0)).toList != (mkS (k+z0)).toList)=false∧((mkS (k+z0)).toList==(mkS (k+z0)).toList)=true:=by simp
   have hne:((k:Int)+(z0:Int)+1 != (k:Int)+(z0:Int)+1)=false:=by simp
   have hne2:((k:Int)+(z0:Int)+1+1 != (k:Int)+(z0:Int)+1+1)=false:=by simp
   have i1:(0:Int)<=(j:Int):=by omega
   have i2:(j:Int)<(qs.length:Int):=by omega
   generalize mkS (k+z0)=ms at*;clear hc hcell c0 c1 c2 c3 hd hsr hmq eq hq;go_wp2;go_region_held3 (fun W=>W.cell? ⟨b,off+j*4,none⟩=some (.string ms)∧Below w.heap.size w W) (first|with_reducible assumption|with_reducible exact hS0) ((first|(go_at_call 63;with_reducible refine(hmt _ hS0.2).mono ?_;rintro e w1 ⟨rfl,hb1⟩;have hS1:=hS _ hb1)))
   obtain⟨g1,g2,g3⟩:=hS12 _ hS1.2;have hh1:=hhs _ hS1.2;clear hhs hS12 hmt hS;go_wp2_with (go_at_call 65;refine hh1.mono ?_;rintro e w2 ⟨rfl,hb2⟩)
   go_roundw
   case rel=>exact⟨j+1,by omega,by go_num,by rw [HZ1.out],Nm.below_two hS1.2 hb2⟩
   case measure=>simp [intOf];omega
  ·have hjn:j=qs.length:=by omega
   subst hjn;clear hc hd;rw [List.take_length];go_wp2;go_ret;exact⟨by rw [show((k+zl qs:Nat):Int)=(k:Int)+(zl qs:Int) by omega];rfl,hbel⟩
set_option maxRecDepth 100000 in
set_option maxHeartbeats 800000 in
theorem eqStep_any(k:Int)(b:Bool)(t:ByteArray)(v u:Value)(qs rs:List Zp)(w:World)(h:ZRow w v qs)(h':ZRow w u rs)(he:qs.map (·.1)=rs.map (·.1))(hd:∀ q∈qs,q.1.da.length<=1000000000):
 Calls Tryz.prog 9 #[.agg #[.int .i64 k,v,.bool b,.string t],.agg #[.int .i64 k,u,.bool b,.string t]] w fun e w'=>e=.returned (.bool true)∧Below w.heap.size w w':=by
 have hss:=fun W (hW:Below w.heap.size w W)=>eqSetS_any v u qs rs W (h.below hW) (h'.below hW) he hd
 obtain⟨va,vc,rfl⟩:∃ va vc,v=.slice va qs.length vc:=by obtain⟨⟨_,a,c,e,_⟩,_⟩:=h;exact⟨a,c,e⟩
 obtain⟨ua,uc,rfl⟩:∃ va vc,u=.slice va rs.length vc:=by obtain⟨⟨_,a,c,e,_⟩,_⟩:=h';exact⟨a,c,e⟩
 have e1:(k != k)=false:=by simp
 have e2:(b != b)=false:=by simp
 have e5:(b==b)=true:=by simp
 obtain⟨e3,e4⟩:=strz_ne t;have b0:=((Below.refl w.heap.size w).alloc (Nat.le_refl _) (.cells #[.int .i64 k,.slice va qs.length vc,.bool b,.string t] 28)).alloc (by simp) (.cells #[.int .i64 k,.slice ua rs.length uc,.bool b,.string t] 28);have k1:=blk_alloc (blk_new w #[.int .i64 k,.slice va qs.length vc,.bool b,.string t] 28) (.cells #[.int .i64 k,.slice ua rs.length uc,.bool b,.string t] 28);have k2:=blk_new (w.alloc (.cells #[.int .i64 k,.slice va qs.length vc,.bool b,.string t] 28)) #[.int .i64 k,.slice ua rs.length uc,.bool b,.string t] 28;rw [World.size_alloc] at k2;have r1:=fun i=>blk_cell k1 i
 have r2:=fun i=>blk_cell k2 i
 clear h h' he hd;go_enter Tryz.func9,Tryz.ntmps9;go_wp2_with fail
 refine(hss _ b0).mono ?_;rintro e w1 ⟨rfl,c1⟩;have k11:=blk_below k1 c1;have k21:=blk_below k2 c1;clear r1 r2 k1 k2;have r1:=fun i=>blk_cell k11 i
 have r2:=fun i=>blk_cell k21 i
 go_wp2;go_ret;exact⟨rfl,Nm.below_two b0 c1⟩
set_option maxRecDepth 100000 in
set_option maxHeartbeats 800000 in
theorem markStep_own(kd:Int)(b:Bool)(t:ByteArray)(v:Value)(qs:List Zp)(B k:Nat)(w:World)(h:ZOwn w B v qs)(hn:zl qs<=400000)(hk:k<=100000):
 Calls Tryz.prog 12 #[.agg #[.int .i64 kd,v,.bool b,.string t],.int .i64 (k:Int)] w fun e w'=>e=.returned (.int .i64 ((k+zl qs:Nat):Int))∧ZOwn w' B v (mkZ k qs)∧Outs (zfp v qs) w w':=by
 have hB:=(Below.refl w.heap.size w).alloc (Nat.le_refl _) (.cells #[.int .i64 kd,v,.bool b,.string t] 28);have hone:=markSetS_own v qs B k _ (h.below hB) hn hk;obtain⟨a,cap,rfl⟩:=own_sl h.outer;clear h;go_enter Tryz.func12,Tryz.ntmps12;go_wp2_with (go_at_call 27;refine hone.mono ?_;rintro e w1 ⟨rfl,hz,hm⟩)
 go_ret;exact⟨rfl,hz,(Outs.below (fp:=zfp (.slice a qs.length cap) qs) hB).trans hm (fun k hk=>.inl hk)⟩
set_option maxRecDepth 100000 in
set_option maxHeartbeats 800000 in
theorem heldStep_any(kd:Int)(b:Bool)(t:ByteArray)(v:Value)(qs:List Zp)(k:Nat)(w:World)(h:ZRow w v (mkZ k qs))(hn:zl qs<=400000)(hk:k<=100000):
 Calls Tryz.prog 13 #[.agg #[.int .i64 kd,v,.bool b,.string t],.int .i64 (k:Int)] w fun e w'=>e=.returned (.int .i64 ((k+zl qs:Nat):Int))∧Below w.heap.size w w':=by
 have hB:=(Below.refl w.heap.size w).alloc (Nat.le_refl _) (.cells #[.int .i64 kd,v,.bool b,.string t] 28);have hone:=heldSetS_any v qs k _ (h.below hB) hn hk;obtain⟨⟨_,a,cap,rfl,_⟩,_⟩:=h;rw [mkZ_len] at*;have hnn:(0:Int)<=((k+zl qs:Nat):Int):=by omega
 generalize ((k+zl qs:Nat):Int)=R at*;go_enter Tryz.func13,Tryz.ntmps13;go_wp2_with (go_at_call 28;refine hone.mono ?_;rintro e w1 ⟨rfl,hb⟩)
 go_ret;exact⟨rfl,Nm.below_two hB hb⟩
theorem zl_bound:∀ (ps:List Zp) (N M:Nat),(∀ p∈ps,p.1.da.length<=N)->ps.length<=M->zl ps<=M*(N+3):=by
 intro ps
 induction ps with
 |nil=>intro N M _ _;simp [zl]
 |cons p ps ih=>
  intro N M h hl;obtain⟨m,rfl⟩:∃ m,M=m+1:=⟨M-1,by simp at hl;omega⟩;have h1:=ih N m (fun q hq=>h q (by simp [hq])) (by simp at hl;omega);have h2:=h p (by simp);have h3:(m+1)*(N+3)=m*(N+3)+(N+3):=by rw [Nat.add_mul];simp
  rw [zl,h3];omega
theorem outs_base{fp:List Nat}{B:Nat}{w w':World}(h:Outs fp w w')(hB:B<=w.heap.size)(hf:∀ b∈fp,B<=b):Below B w w':=
 ⟨h.os,h.tape,h.output,h.size,fun k hk=>h.block k (by omega) (fun hm=>by have:=hf k hm;omega)⟩
theorem zfp_ge{w:World}{B:Nat}{v:Value}{ps:List Zp}(h:ZOwn w B v ps):∀ b∈zfp v ps,B<=b:=by
 intro b hb;simp only [zfp,List.mem_append,List.mem_flatMap] at hb
 rcases hb with hb|⟨p,hp,hb⟩
 ·cases hv:v.ownBlock with
  |none=>rw [hv] at hb;simp at hb
  |some q=>rw [hv] at hb;simp at hb;subst hb;exact(h.outer.lt _ hv).1
 ·obtain⟨i,hi⟩:=List.getElem?_of_mem hp
  cases hv:p.2.ownBlock with
  |none=>rw [hv] at hb;simp at hb
  |some q=>rw [hv] at hb;simp at hb;subst hb;exact((h.inner i p hi).lt _ hv).1
def Bks(W:World)(bl:List (Nat×Array Value×Nat)):Prop:=∀ x∈bl,Blk W x.1 x.2.1 x.2.2
section
variable {w w':World}{bl:List (Nat×Array Value×Nat)}{B N:Nat}{v:Value}{qs:List Zp}
theorem Bks.get(h:Bks w bl)(i:Nat){b:Nat}{cs:Array Value}{T:Nat}(hi:bl[i]? =some (b,cs,T)):Blk w b cs T:=h _ (List.mem_of_getElem? hi)
theorem Bks.below(h:Bks w bl)(hb:Below w.heap.size w w'):Bks w' bl:=fun x hx=>blk_below (h x hx) hb
theorem Bks.keep(h:Bks w bl)(hk:∀ x∈bl,w'.heap[x.1]? =w.heap[x.1]?):Bks w' bl:=fun x hx=>(hk x hx).trans (h x hx)
theorem Bks.cons{b:Nat}{cs:Array Value}{T:Nat}(k:Blk w b cs T)(h:Bks w bl):Bks w ((b,cs,T)::bl):=by
 intro x hx
 rcases List.mem_cons.1 hx with rfl|hx
 ·exact k
 ·exact h x hx
theorem own_kpP{B e s n:Nat}{v:Value}{xs:List Value}(h:w.ownsRow B e s v n xs)(hk:∀ g,v.ownBlock=some g->w'.heap[g]? =w.heap[g]?):w'.ownsRow B e s v n xs:=by
 refine⟨h.1,?_⟩
 rcases h.2 with h0|⟨g,cap,cur,rfl,hb1,hg,r⟩
 ·exact .inl h0
 ·exact .inr ⟨g,cap,cur,rfl,hb1,(hk g rfl).trans hg,r⟩
theorem ZOwn.keep(h:ZOwn w B v qs)(hk:∀ g∈zfp v qs,w'.heap[g]? =w.heap[g]?):ZOwn w' B v qs:=
 ⟨own_kpP h.outer (fun g hg=>hk g (by simp [zfp,hg])),fun i p hp=>own_kpP (h.inner i p hp) (fun g hg=>hk g (by
  simp only [zfp,List.mem_append,List.mem_flatMap]
  exact .inr ⟨p,List.mem_of_getElem? hp,by simp [hg]⟩)),h.apart⟩
theorem zfp_lt(h:ZOwn w B v qs):∀ b∈zfp v qs,b<w.heap.size:=by
 intro b hb;simp only [zfp,List.mem_append,List.mem_flatMap] at hb
 rcases hb with hb|⟨p,hp,hb⟩
 ·cases hv:v.ownBlock with
  |none=>rw [hv] at hb;simp at hb
  |some q=>rw [hv] at hb;simp at hb;subst hb;exact(h.outer.lt _ hv).2
 ·obtain⟨i,hi⟩:=List.getElem?_of_mem hp
  cases hv:p.2.ownBlock with
  |none=>rw [hv] at hb;simp at hb
  |some q=>rw [hv] at hb;simp at hb;subst hb;exact((h.inner i p hi).lt _ hv).2
end
theorem cz_ssum{ls:List ByteArray}{x:ByteArray}(h:x∈ls):x.size<=ssum ls:=by
 induction ls with
 |nil=>simp at h
 |cons y ls ih=>
  rcases List.mem_cons.1 h with rfl|h
  ·simp only [ssum];omega
  ·have:=ih h;simp only [ssum];omega
theorem cz_fits{ps:List Zp}(h:zsum ps<=1048576):∀ p∈ps,p.1.own.size<=1048576∧p.1.da.length<=1048576∧∀ x∈p.1.da,x.size<=1048576:=by
 intro p hp;have h1:=zsum_mem ps p hp;unfold zs1 at h1;exact⟨by omega,by omega,fun x hx=>by have:=cz_ssum hx;omega⟩
theorem cz_mem{ps qs:List Zp}(h:qs.map (·.1)=ps.map (·.1)){P:Sz->Prop}(hp:∀ p∈ps,P p.1):∀ q∈qs,P q.1:=by
 intro q hq;have:q.1∈qs.map (·.1):=List.mem_map.2 ⟨q,hq,rfl⟩;rw [h] at this;obtain⟨p,hp1,hp2⟩:=List.mem_map.1 this;rw [<- hp2];exact hp p hp1
theorem zOK_same{ps qs:List Zp}(h:qs.map (·.1)=ps.map (·.1))(o:ByteArray):zOK qs o=zOK ps o:=by
 rw [zOK,zOK,zoneRecs_same h,h]
end Go.Proofs.YtcodajnebegdiaaGreat
namespace Go.Proofs.YtcodajnebegdiaaGreat
open Go.RowKit Go.Deep
set_option linter.unusedVariables false
section
variable {H:Type}{enc:TypeId×Value->H}{w:World}{base:Nat}{held:Bool}
theorem set_c:Tryz.prog.cellsOf 9=1∧Tryz.prog.cellsOf 2=1∧Tryz.prog.cellsOf 52=1∧Tryz.prog.cellsOf 65=4:=⟨by kernel_rfl,by kernel_rfl,by kernel_rfl,by kernel_rfl⟩
theorem open_srow{fuel:Nat}{v:Value}{x:DataW H×List MemPlace}(h:DataW.trod enc Tryz.prog w base (fun _=>true) held fuel 52 [v]=some x):
 ∃ ls,Nm.SRow w v ls∧∀ y∈ls,y.size<=maxLen:=by
 rcases Go.Deep.open_strs Tryz.underlying52 Tryz.underlying9 (by kernel_rfl) h with⟨hcs,_⟩|⟨a,l,c,m,Sx,hcs,_,hl,hm,hz,_,hcell⟩
 ·simp at hcs;subst hcs;exact⟨[],⟨none,0,rfl,by simp,by decide,fun _=>rfl,fun h=>absurd rfl h⟩,by simp⟩
 ·simp at hcs;subst hcs;have hz':m=c:=by simpa using hz
  subst hz';refine⟨(List.range l).map Sx,⟨some a,m,by simp,by simpa using hl,hm,(fun h=>by cases h),fun hne=>?_⟩,?_⟩
  ·have hpos:0<l:=by
    rcases Nat.eq_zero_or_pos l with h|h
    ·subst h;simp at hne
    ·exact h
   obtain⟨b,off,spot⟩:=a;have h0:=(hcell 0 (by omega)).1;have hspot:spot=none:=by simpa [Addr.add] using World.cell?_spot h0
   subst hspot;refine⟨b,off,rfl,?_⟩;intro i x hx
   have hi:i<l:=by
    have:=(List.getElem?_eq_some_iff.1 hx).1;simpa using this
   have:=(hcell i (by omega)).1;rw [Nm.addr_add] at this;rw [this];simp [hi] at hx
   rw [hx]
  ·intro y hy;simp only [List.mem_map,List.mem_range] at hy;obtain⟨i,hi,rfl⟩:=hy;exact(hcell i (by omega)).2
set_option maxRecDepth 100000 in
theorem open_set{fuel:Nat}{cs:List Value}{x:DataW H×List MemPlace}(h:DataW.trod enc Tryz.prog w base (fun _=>true) held fuel 65 cs=some x)(hl:cs.length=4):
 ∃ p:Zp,cs=zpV p∧Nm.SRow w p.2 p.1.da∧p.1.own.size<=maxLen∧∀ y∈p.1.da,y.size<=maxLen:=by
 obtain⟨xs,n,_,_,_,hxl,hf⟩:=DataW.trod_struct Tryz.underlying65 h;obtain⟨c1,c2,c3,_⟩:=set_c
 match cs,hl with
 |[v0,v1,v2,v3],_=>
  have g0:=hf 0 _ rfl;have g1:=hf 1 _ rfl;have g2:=hf 2 _ rfl;have g3:=hf 3 _ rfl
  match xs,hxl with
  |[y0,y1,y2,y3],_=>
   simp [c1,c2,c3] at g0 g1 g2 g3
   obtain⟨s0,e0,_,w0⟩:=DataW.trod_string Tryz.underlying9 g0;obtain⟨n1,e1,_,w1⟩:=DataW.trod_int Tryz.underlying2 g1;obtain⟨n2,e2,_,w2⟩:=DataW.trod_int Tryz.underlying2 g2;obtain⟨ls,hs,hy⟩:=open_srow g3;simp at e0 e1 e2;subst e0 e1 e2;exact⟨(⟨s0,n1,n2,ls⟩,v3),rfl,hs,w0,hy⟩
theorem choose_zp{n:Nat}{p:Nat->Zp->Prop}(h:∀ i,i<n->∃ x,p i x):∃ f:Nat->Zp,∀ i,i<n->p i (f i):=by
 classical
 refine⟨fun i=>if hi:i<n then Classical.choose (h i hi) else(⟨.empty,0,0,[]⟩,.slice none 0 0),fun i hi=>?_⟩;simp only [dif_pos hi];exact Classical.choose_spec (h i hi)
set_option maxRecDepth 100000 in
theorem open_sets{t:TypeId}{fuel:Nat}{v:Value}{x:DataW H×List MemPlace}(ht:Tryz.prog.underlying t=some (.slice 65))(h:DataW.trod enc Tryz.prog w base (fun _=>true) held fuel t [v]=some x):
 ∃ ps:List Zp,ZRow w v ps∧ZFit ps:=by
 rcases open_slice ht h with⟨e,_⟩|⟨a,len,cap,m,n,D,Pl,e,hb,hl,hm,hmm,_,hx⟩
 ·simp at e;subst e;exact⟨[],⟨⟨rfl,none,0,rfl,Nat.le_refl _,by decide,fun h=>absurd h (by simp)⟩,by simp⟩,by intro p hp;simp at hp⟩
 ·simp at e;subst e;have hlm:len<=m:=by rw [hmm];split<;>omega
  obtain⟨_,_,_,c4⟩:=set_c;rw [c4] at hx
  obtain⟨f,hf⟩:=choose_zp (n:=len) (p:=fun i r=>(∀ j,j<4->w.cell? ((a.add (i*4)).add j)=(zpV r)[j]?)∧Nm.SRow w r.2 r.1.da∧r.1.own.size<=maxLen∧∀ y∈r.1.da,y.size<=maxLen) (fun i hi=>by
   obtain⟨cs',h1,h2⟩:=hx i (by omega);obtain⟨_,hlen,hcell⟩:=World.cells?_some h1;obtain⟨r,rfl,q⟩:=open_set h2 hlen
   exact⟨r,hcell,q⟩)
  refine⟨(List.range len).map f,⟨⟨?_,some a,cap,by simp,by simpa using hl,hm,fun hpos=>?_⟩,?_⟩,?_⟩
  ·rw [zpVs_len]
  ·have hlen:0<len:=by simpa using hpos
   obtain⟨b,off,spot⟩:=a;have h0:=(hf 0 hlen).1 0 (by decide);have h0':w.cell? ((Addr.mk b off spot).add (0*4+0))=some (.string (f 0).1.own):=by rw [<- add_add];exact h0
   have hspot:spot=none:=by simpa [Addr.add] using World.cell?_spot h0'
   subst hspot;refine⟨b,off,rfl,?_⟩;intro i y hy
   have hi:i<len*4:=by
    have:=(List.getElem?_eq_some_iff.1 hy).1;rw [zpVs_len] at this;simpa using this
   obtain⟨k,j,hk,hj,rfl⟩:∃ k j,k<len∧j<4∧i=k*4+j:=⟨i / 4,i % 4,by omega,by omega,by omega⟩;rw [zpVs_at _ k j (f k) (by simp [hk]) hj] at hy;have:=(hf k hk).1 j hj;rw [add_add,hy,Nm.addr_add] at this;exact this
  ·intro p hp;simp only [List.mem_map,List.mem_range] at hp;obtain⟨i,hi,rfl⟩:=hp;exact(hf i hi).2.1
  ·intro p hp;simp only [List.mem_map,List.mem_range] at hp;obtain⟨i,hi,rfl⟩:=hp;exact(hf i hi).2.2
end
end Go.Proofs.YtcodajnebegdiaaGreat
namespace Go.Proofs.YtcodajnebegdiaaGreat
open Go.RowKit
set_option linter.unusedVariables false
set_option maxRecDepth 100000 in
set_option maxHeartbeats 800000 in
theorem szSet_any(s:Sz)(dv:Value)(L:Int)(w:World)(h:Nm.SRow w dv s.da)(h0:0<=L)(h1:L<=1048576)(ho:s.own.size<=maxLen)(hd:∀ x∈s.da,x.size<=maxLen):
 Calls Tryz.prog 34 #[.agg #[.string s.own,.int .i64 s.ty,.int .i64 s.tt,dv],.int .i64 L] w fun e w'=>e=.returned (.int .i64 (szZ1 s L))∧Below w.heap.size w w':=by
 unfold maxLen at ho;have hB:=(Below.refl w.heap.size w).alloc (Nat.le_refl _) (.cells #[.string s.own,.int .i64 s.ty,.int .i64 s.tt,dv] 65);have hcall:=fun K h0 h1=>szStringS_any dv s.da K _ (h.below hB) hd h0 h1
 obtain⟨a,cap,rfl,_⟩:=h;obtain⟨o,ty,tt,da⟩:=s;simp only at*
 by_cases hm:L-o.size<0
 ·have HS:Hid (szZ1 ⟨o,ty,tt,da⟩ L= -1):=if_neg (by simp only [zs1];omega);clear hcall hd;go_enter Tryz.func34,Tryz.ntmps34;go_wp2;go_ret;rw [HS.out];exact⟨rfl,hB⟩
 ·have hm':0<=L-o.size:=by omega
  have hone:=hcall (L-o.size) hm' (by omega);clear hcall hd
  by_cases hn:(da.length:Int)+(ssum da:Int)<=L-o.size
  ·have HS:Hid (szZ1 ⟨o,ty,tt,da⟩ L=L-o.size-da.length-ssum da):=by
    show _=_
    rw [szZ1,if_pos (by simp only [zs1];omega)];simp only [zs1];omega
   have e1:szS da (L-o.size)=L-o.size-da.length-ssum da:=if_pos hn;have hnn:0<=L-o.size-da.length-ssum da:=by omega
   rw [e1] at hone;clear e1 hn;generalize (L-(o.size:Int)-(da.length:Int)-(ssum da:Int))=L2 at*;go_enter Tryz.func34,Tryz.ntmps34;go_wp2_with (go_at_call 75;refine hone.mono ?_;rintro e w1 ⟨rfl,rfl⟩)
   go_ret;rw [HS.out];exact⟨rfl,hB⟩
  ·have HS:Hid (szZ1 ⟨o,ty,tt,da⟩ L= -1):=if_neg (by simp only [zs1];omega);have e1:szS da (L-o.size)= -1:=if_neg hn;rw [e1] at hone;clear e1 hn;go_enter Tryz.func34,Tryz.ntmps34;go_wp2_with (go_at_call 75;refine hone.mono ?_;rintro e w1 ⟨rfl,rfl⟩)
   go_ret;rw [HS.out];exact⟨rfl,hB⟩
set_option maxRecDepth 100000 in
set_option maxHeartbeats 1600000 in
theorem szSetS_any(v:Value)(ps:List Zp)(L:Int)(w:World)(h:ZRow w v ps)(hx:ZFit ps)(h0:0<=L)(h1:L<=1048576):
 Calls Tryz.prog 19 #[v,.int .i64 L] w fun e w'=>e=.returned (.int .i64 (szZS ps L))∧Below w.heap.size w w':=by
 obtain⟨⟨_,a,cap,rfl,hcap,hmx,hc⟩,hd⟩:=h;unfold maxLen at hmx
 by_cases hm:L<ps.length
 ·have HS:Hid (szZS ps L= -1):=if_neg (by omega);have hm':L-(ps.length:Int)<0:=by omega
  clear hx hc hd;go_enter Tryz.func19,Tryz.ntmps19;go_wp2;go_ret;rw [HS.out];exact⟨rfl,Below.refl _ _⟩
 ·have hl:(ps.length:Int)<=1048576:=by omega
  have hm':(0:Int)<=L-(ps.length:Int):=by omega
  have hsz:=fun(p:Zp) (hp:p∈ps) (K:Int) (W:World) (hW:Below w.heap.size w W) (h0:0<=K) (h1:K<=1048576)=>szSet_any p.1 p.2 K W ((hd p hp).below hW) h0 h1 (hx p hp).1 (hx p hp).2
  clear hd;go_enter Tryz.func19,Tryz.ntmps19;go_wp2
  go_loopw [1,5] (fun t i wr=>∃ k:Nat,k<=ps.length∧i=.int .i64 k∧t=.int .i64 (L-ps.length-zsum (ps.take k))∧Hid ((ps.length:Int)+zsum (ps.take k)<=L)∧Below w.heap.size w wr) (fun _ i _=>ps.length-(intOf i).toNat)
  case atStart=>exact⟨0,Nat.zero_le _,rfl,by simp [zsum],by show _<=L;simp [zsum];omega,Below.refl _ _⟩
  case round=>
   obtain⟨k,hk,rfl,rfl,hle,hbel⟩:=hrel
   by_cases hlt:k<ps.length
   ·obtain⟨x,hxk⟩:∃ x,ps[k]? =some x:=⟨_,List.getElem?_eq_getElem hlt⟩;obtain⟨b,off,rfl,hcell⟩:=hc (by omega);obtain⟨c0,c1,c2,c3⟩:=zp_cells hcell hxk;have put:∀ {O:Nat} {z:Value},w.cell? ⟨b,O,none⟩=some z->wr.cell? ⟨b,O,none⟩=some z:=fun h=>(hbel.cell (World.block_lt_of_cell? w _ h)).trans h
    replace c0:=put c0
    replace c1:=put c1
    replace c2:=put c2
    replace c3:=put c3
    have HS:Hid (zsum (ps.take (k+1))=zsum (ps.take k)+zs1 x.1):=zsum_step ps k x hxk;have hs1:Hid (zsum (ps.take (k+1))<=zsum ps):=zsum_take_le ps (k+1);have hone:=hsz x (List.mem_of_getElem? hxk) (L-ps.length-zsum (ps.take k)) wr hbel (by have:=hle.out;omega) (by omega);have i1:(0:Int)<=(k:Int):=by omega
    have i2:(k:Int)<(ps.length:Int):=by omega
    by_cases hb:(zs1 x.1:Int)<=L-ps.length-zsum (ps.take k)
    ·have e1:szZ1 x.1 (L-ps.length-zsum (ps.take k))=L-ps.length-zsum (ps.take (k+1)):=by
      have:=HS.out;rw [szZ1,if_pos hb];omega
     have hnn:0<=L-(ps.length:Int)-zsum (ps.take (k+1)):=by have:=HS.out;omega
     have hle2:Hid ((ps.length:Int)+zsum (ps.take (k+1))<=L):=by show _<=L;omega
     rw [e1] at hone;clear hxk hcell hc hx hsz HS hb e1 hs1;generalize hL2:(L-(ps.length:Int)-(zsum (ps.take (k+1)):Int))=L2 at*;generalize (L-(ps.length:Int)-(zsum (ps.take k):Int))=L1 at*;go_wp2_with (go_at_call 34;refine hone.mono ?_;rintro e w1 ⟨rfl,hb1⟩)
     go_roundw
     case rel=>exact⟨k+1,by omega,by go_num,by rw [hL2],hle2,Nm.below_two hbel hb1⟩
     case measure=>simp [intOf];omega
    ·have HZ:Hid (szZS ps L= -1):=if_neg (by have:=HS.out;have:=hs1.out;omega);have e1:szZ1 x.1 (L-ps.length-zsum (ps.take k))= -1:=if_neg hb;rw [e1] at hone;clear hxk hcell hc hx hsz HS hb e1 hs1;generalize (L-(ps.length:Int)-(zsum (ps.take k):Int))=L1 at*;go_wp2_with (go_at_call 34;refine hone.mono ?_;rintro e w1 ⟨rfl,hb1⟩)
     go_ret;rw [HZ.out];exact⟨rfl,Nm.below_two hbel hb1⟩
   ·have hkl:k=ps.length:=by omega
    have HZ:Hid (szZS ps L=L-ps.length-zsum (ps.take k)):=by
     have:=hle.out;rw [hkl,List.take_length] at this ⊢;exact if_pos this
    have i2:(ps.length:Int)<=(k:Int):=by omega
    clear hc hx hsz;generalize (L-(ps.length:Int)-(zsum (ps.take k):Int))=L1 at*;go_wp2;go_ret;rw [HZ.out];exact⟨rfl,hbel⟩
set_option maxRecDepth 100000 in
set_option maxHeartbeats 1600000 in
theorem szZone_any(o:ByteArray)(v:Value)(ps:List Zp)(L:Int)(w:World)(h:ZRow w v ps)(hx:ZFit ps)(ho:o.size<=maxLen)(h0:0<=L)(h1:L<=1048576):
 Calls Tryz.prog 5 #[.agg #[.string o,v],.int .i64 L] w fun e w'=>e=.returned (.int .i64 (szZ o ps L))∧Below w.heap.size w w':=by
 unfold maxLen at ho;have hB:=(Below.refl w.heap.size w).alloc (Nat.le_refl _) (.cells #[.string o,v] 24);have hcall:=fun K h0 h1=>szSetS_any v ps K _ (h.below hB) hx h0 h1
 obtain⟨⟨_,a,cap,rfl,_⟩,_⟩:=h;clear hx
 by_cases hm:L-o.size<0
 ·have HS:Hid (szZ o ps L= -1):=if_neg (by omega);clear hcall;go_enter Tryz.func5,Tryz.ntmps5;go_wp2;go_ret;rw [HS.out];exact⟨rfl,hB⟩
 ·have hm':0<=L-o.size:=by omega
  have hone:=hcall (L-o.size) hm' (by omega);clear hcall
  by_cases hn:(ps.length:Int)+(zsum ps:Int)<=L-o.size
  ·have HS:Hid (szZ o ps L=L-o.size-ps.length-zsum ps):=if_pos (by omega);have e1:szZS ps (L-o.size)=L-o.size-ps.length-zsum ps:=if_pos hn;have hnn:0<=L-o.size-ps.length-zsum ps:=by omega
   rw [e1] at hone;clear e1 hn;generalize (L-(o.size:Int)-(ps.length:Int)-(zsum ps:Int))=L2 at*;go_enter Tryz.func5,Tryz.ntmps5;go_wp2_with (go_at_call 19;refine hone.mono ?_;rintro e w1 ⟨rfl,hb1⟩)
   go_ret;rw [HS.out];exact⟨rfl,Nm.below_two hB hb1⟩
  ·have HS:Hid (szZ o ps L= -1):=if_neg (by omega);have e1:szZS ps (L-o.size)= -1:=if_neg hn;rw [e1] at hone;clear e1 hn;go_enter Tryz.func5,Tryz.ntmps5;go_wp2_with (go_at_call 19;refine hone.mono ?_;rintro e w1 ⟨rfl,hb1⟩)
   go_ret;rw [HS.out];exact⟨rfl,Nm.below_two hB hb1⟩
end Go.Proofs.YtcodajnebegdiaaGreat
