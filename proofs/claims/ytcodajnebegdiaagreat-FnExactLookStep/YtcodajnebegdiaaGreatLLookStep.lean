import Derived.Test.YtcodajnebegdiaaGreatJZkH
import Derived.Test.YtcodajnebegdiaaGreatJLoF
import Derived.Test.YtcodajnebegdiaaGreatJLoC
namespace Go.Proofs.YtcodajnebegdiaaGreat
open Go.RowKit
set_option linter.unusedVariables false
theorem lk_same{ps qs:List Zp}(h:qs.map (·.1)=ps.map (·.1))(o name:ByteArray)(q:Int):lsR qs o name q=lsR ps o name q:=by
 have e:thZ qs o=thZ ps o:=by
  funext x
  have hany:∀ l:List Zp,(l.any fun p=>isUnderS p.1.own x)=(l.map (·.1)).any fun s=>isUnderS s.own x:=fun l=>by rw [List.any_map];rfl
  rw [thZ,thZ,hany,hany,h]
 have e2:lsOK qs o name q=lsOK ps o name q:=by rw [lsOK,lsOK,zOK_same h]
 have e3:lkZ qs o name q=lkZ ps o name q:=by rw [lkZ,lkZ,ndZ,ndZ,h,e]
 rw [lsR,lsR,e3]
 by_cases hh:lsOK ps o name q
 ·rw [if_pos hh,if_pos (by rw [e2];exact hh)]
 ·rw [if_neg hh,if_neg (by rw [e2];exact hh)]
theorem at_sub{ss:List Sz}{q:Int}:∀ s∈(atZ ss q).ss,s∈ss:=by
 intro s hs;rw [atZ] at hs
 split at hs
 ·exact hs
 ·cases hf:ss.find? (fun s=>decide (s.ty=q)) with
  |some x=>
   rw [hf] at hs;simp only [List.mem_singleton] at hs;rw [hs]
   exact List.mem_of_find?_eq_some hf
  |none=>
   rw [hf] at hs
   cases hf2:ss.find? (fun s=>decide (s.ty=5)) with
   |some x=>
    rw [hf2] at hs;simp only [List.mem_singleton] at hs;rw [hs]
    exact List.mem_of_find?_eq_some hf2
   |none=>rw [hf2] at hs;simp at hs
theorem at_few{ss:List Sz}{q:Int}:(atZ ss q).ss.length<=ss.length+1:=by
 rw [atZ];split
 ·simp
 ·cases ss.find? (fun s=>decide (s.ty=q)) with
  |some x=>simp
  |none=>cases ss.find? (fun s=>decide (s.ty=5))<;>simp
theorem dsum_memL:∀ (ps:List Zp) (p:Zp),p∈ps->p.1.da.length<=dsum ps
 |x::xs,p,h=>by
  rcases List.mem_cons.1 h with rfl|h
  ·simp only [dsum];omega
  ·have:=dsum_memL xs p h;simp only [dsum];omega
theorem fnd_mem{ss:List Sz}{x:ByteArray}{t:Int}{N:Nat}(h:∀ s∈ss,s.da.length<=N):((fndZ ss x t).getD sz0).da.length<=N:=by
 cases hf:fndZ ss x t with
 |none=>simp [sz0]
 |some s=>
  rw [fndZ] at hf;exact h s (List.mem_of_find?_eq_some hf)
theorem ls_fit{ps:List Zp}{o name:ByteArray}{q:Int}:(lsR ps o name q).1.ss.length<=501∧∀ s∈(lsR ps o name q).1.ss,s.da.length<=500:=by
 rw [lsR]
 by_cases hh:lsOK ps o name q
 ·rw [if_pos hh];have h2:¬(500<ps.length∨500<dsum ps):=fun hc=>by have:=zOK_big hc (o:=o);rw [hh.1] at this;cases this
  have hd:∀ s∈ps.map (·.1),s.da.length<=500:=by
   intro s hs;obtain⟨p,hp,rfl⟩:=List.mem_map.1 hs;have:=dsum_memL ps p hp;omega
  have hn:∀ x,(ndsZ (ps.map (·.1)) x).length<=500∧∀ s∈ndsZ (ps.map (·.1)) x,s.da.length<=500:=fun x=>by
   have h3:=List.length_filter_le (fun s:Sz=>sameS s.own x) (ps.map (·.1));rw [List.length_map] at h3;exact⟨by rw [ndsZ];omega,fun s hs=>hd s (List.mem_filter.1 hs).1⟩
  show(lkZ ps o name q).ss.length<=501∧∀ s∈(lkZ ps o name q).ss,s.da.length<=500
  rw [lkZ];generalize ndZ ps o name=N;rw [lkN];split
  ·simp
  ·split
   ·exact⟨by simp,fun s hs=>by simp only [List.mem_singleton] at hs;rw [hs];exact fnd_mem hd⟩
   ·split
    ·exact⟨Nat.le_trans at_few (by have:=(hn name).1;omega),fun s hs=>(hn name).2 s (at_sub s hs)⟩
    ·cases hf:fndZ (ps.map (·.1)) N.clo 39 with
     |some s=>
      have hs:=hd s (by rw [fndZ] at hf;exact List.mem_of_find?_eq_some hf);simp only [tailS]
      split<;>exact⟨by simp,fun x hx=>by simp only [List.mem_singleton] at hx;rw [hx];exact hs⟩
     |none=>
      simp only
      split
      ·refine⟨by simp only [wldS,List.length_map];exact Nat.le_trans at_few (by have:=(hn (strN N.clo)).1;omega),fun s hs=>?_⟩;simp only [wldS,List.mem_map] at hs;obtain⟨x,hx,rfl⟩:=hs;exact(hn (strN N.clo)).2 x (at_sub x hx)
      ·simp
 ·rw [if_neg hh];simp
set_option maxRecDepth 100000 in
set_option maxHeartbeats 6400000 in
theorem fnExactLookStep_walk(o name:ByteArray)(q:Int)(v:Value)(ps:List Zp)(w:World)(h:ZRow w v ps)(hx:ZFit ps)(ho:o.size<=maxLen)(hn:name.size<=maxLen):
 Calls Tryz.prog 3 #[.agg #[.string o,v],.string name,.int .i64 q] w fun e w'=>e=.returned (.bool true)∧Below w.heap.size w w':=by
 obtain⟨va,vc,rfl⟩:∃ va vc,v=.slice va ps.length vc:=by obtain⟨⟨_,a,c,e,_⟩,_⟩:=h;exact⟨a,c,e⟩
 have b0:=(Below.refl w.heap.size w).alloc (Nat.le_refl _) (.cells #[.string o,.slice va ps.length vc] 24);have ky:=blk_new w #[.string o,.slice va ps.length vc] 24;have hsz:=szZone_any o _ ps 1048576 _ (h.below b0) hx ho (by decide) (by decide)
 by_cases hna:1048576<name.size
 ·have i1:(1048576:Int)<(name.size:Int):=by omega
  clear hsz hx h ky;unfold maxLen at hn ho;go_enter Tryz.func3,Tryz.ntmps3;go_wp2;go_ret;exact⟨rfl,b0⟩
 have i1:¬(1048576:Int)<(name.size:Int):=by omega
 by_cases hb:(o.size:Int)+ps.length+(zsum ps:Int)<=1048576
 ·have e1:szZ o ps 1048576=1048576-o.size-ps.length-zsum ps:=if_pos hb;rw [e1] at hsz;have s1:zsum ps<=1048576:=by omega
  have l1:ps.length<=1048576:=by omega
  have p1:o.size<=1048576:=by omega
  have F1:=cz_fits s1;have hnn:0<=1048576-(o.size:Int)-(ps.length:Int)-(zsum ps:Int):=by omega
  generalize (1048576-(o.size:Int)-(ps.length:Int)-(zsum ps:Int))=L1 at*;clear hb hx e1;have hto1:=fun W (hW:Below w.heap.size w W)=>toZone_any o _ ps W (h.below hW) l1 (fun p hp=>(F1 p hp).2.1)
  have hfq:∀ qs:List Zp,qs.map (·.1)=ps.map (·.1)->∀ q∈qs,q.1.own.size<=1048576∧q.1.da.length<=1048576∧∀ x∈q.1.da,x.size<=1048576:=fun qs hq=>cz_mem hq (P:=fun s=>s.own.size<=1048576∧s.da.length<=1048576∧∀ x∈s.da,x.size<=1048576) F1
  have hsp:∀ (u:Value) (qs:List Zp) (W:World),qs.map (·.1)=ps.map (·.1)->ZRow W u qs->Calls Tryz.prog 6 #[.agg #[.string o,u],.string name,.int .i64 q] W (SmP (lsR ps o name q) W):=by
   intro u qs W hq hz;have hl:qs.length=ps.length:=by have:=congrArg List.length hq;simpa using this
   have:=specLookStep_any o name q u qs W hz (by rw [zsum_same hq];exact s1) (by omega) (hfq qs hq) ho hn
   rwa [lk_same hq] at this
  have him:∀ (u:Value) (qs:List Zp) (W:World),qs.map (·.1)=ps.map (·.1)->ZRow W u qs->Calls Tryz.prog 8 #[.agg #[.string o,u],.string name,.int .i64 q] W (SlP (lsR ps o name q) W):=by
   intro u qs W hq hz;have:=implLookStep_any o name q u qs W hz (by rw [zsum_same hq];exact s1) (fun x hx=>⟨(hfq qs hq x hx).1,(hfq qs hq x hx).2.2⟩) (by omega) (by omega)
   rwa [lk_same hq] at this
  have hez:=fun(u u':Value) (qs rs:List Zp) (W:World) (g1:qs.map (·.1)=ps.map (·.1)) (g2:rs.map (·.1)=ps.map (·.1)) (g3:ZRow W u qs) (g4:ZRow W u' rs)=>eqZone_any o u u' qs rs W g3 g4 (g1.trans g2.symm) (fun x hx=>by have:=(hfq qs g1 x hx).2.1;omega)
  have hsf:=ls_fit (ps:=ps) (o:=o) (name:=name) (q:=q);generalize lsR ps o name q=RR at*;obtain⟨⟨zk,zs,zw,zt⟩,C⟩:=RR;simp only at hsf
  have hzl:=Nm.hide (fun(qs:List Zp) (hq:qs.map (·.1)=zs)=>show zl qs<=400000∧∀ x∈qs,x.1.da.length<=1000000000 from by
   have hm:∀ x∈qs,x.1.da.length<=500:=fun x hx=>hsf.2 x.1 (by rw [<- hq];exact List.mem_map.2 ⟨x,hx,rfl⟩)
   have hl:qs.length<=501:=by have:=congrArg List.length hq;rw [List.length_map] at this;omega
   have:=zl_bound qs 500 501 hm hl
   exact⟨by omega,fun x hx=>by have:=hm x hx;omega⟩)
  have heq:=fun u u' qs rs W (g1:qs.map (·.1)=zs) (g2:rs.map (·.1)=zs) g3 g4=>eqStep_any zk zw zt u u' qs rs W g3 g4 (g1.trans g2.symm) (hzl.out qs g1).2
  have hco:(C != C)=false:=by simp
  clear hsf ho;unfold maxLen at hn;go_enter Tryz.func3,Tryz.ntmps3;go_wp2_with fail
  go_at_call 5
  refine hsz.mono ?_;rintro e w1 ⟨rfl,b1⟩;have bw1:=Nm.below_two b0 b1;have ky1:=blk_below ky b1;have ry:=fun i=>blk_cell ky1 i
  clear hsz b0 b1 ky;go_wp2_with fail
  refine(hto1 _ bw1).mono ?_;rintro e w2 ⟨u2,qs2,rfl,hq2,z2,b2⟩;obtain⟨ua2,uc2,hu2⟩:=own_sl z2.1;subst hu2;have bw2:=Nm.below_two bw1 b2;have ky2:=blk_below ky1 b2;clear ry ky1 bw1 b2;go_wp2_with fail
  refine(hsp _ qs2 _ hq2 z2.read).mono ?_;rintro e w3 ⟨v3,qs0,rfl,hq0,z0,b3⟩;obtain⟨sa0,sc0,rfl⟩:∃ a c,v3=.slice a qs0.length c:=by obtain⟨⟨_,a,c,e,_⟩,_⟩:=z0.read;exact⟨a,c,e⟩
  have cS:=(Below.refl w3.heap.size w3).alloc (Nat.le_refl _) (.cells #[.int .i64 zk,.slice sa0 qs0.length sc0,.bool zw,.string zt] 28);have kc0:=blk_new w3 #[.int .i64 zk,.slice sa0 qs0.length sc0,.bool zw,.string zt] 28;have hS:(w3.alloc (.cells #[.int .i64 zk,.slice sa0 qs0.length sc0,.bool zw,.string zt] 28)).heap.size=w3.heap.size+1:=by simp
  have c3:=Nm.below_two b3 cS;have bwc:=Nm.below_two bw2 c3;have ky3:=blk_below ky2 c3;have HZ0:=Nm.hide (fun X (hX:Below w3.heap.size w3 X)=>z0 X (fun k _ hk=>hX.block k hk));have s20:w.heap.size<w2.heap.size:=blk_lt ky2;have s23:w2.heap.size<=w3.heap.size:=b3.size;have bk0:Bks (w3.alloc (.cells #[.int .i64 zk,.slice sa0 qs0.length sc0,.bool zw,.string zt] 28)) [(w.heap.size,#[.string o,.slice va ps.length vc],24),(w3.heap.size,#[.int .i64 zk,.slice sa0 qs0.length sc0,.bool zw,.string zt],28)]:=Bks.cons ky3 (Bks.cons kc0 (fun x hx=>absurd hx (by simp)));obtain⟨wc,hwc⟩:∃ wc,w3.alloc (.cells #[.int .i64 zk,.slice sa0 qs0.length sc0,.bool zw,.string zt] 28)=wc:=⟨_,rfl⟩;rw [hwc] at hS c3 bwc ky3 bk0 cS;have ry:=fun i=>blk_cell ky3 i
  clear hsp z2 ky2 bw2 b3 z0 kc0 c3;go_wp2_with fail
  refine(hto1 _ bwc).mono ?_;rintro e w4 ⟨u4,qs4,rfl,hq4,z4,b4⟩;obtain⟨ua4,uc4,hu4⟩:=own_sl z4.1;subst hu4;obtain⟨hC4,hD4⟩:=z4.lt;have s4:=b4.size;have cA:=(Below.refl w4.heap.size w4).alloc (Nat.le_refl _) (.cells #[.string o,.slice ua4 qs4.length uc4] 32);have x4:=blk_new w4 #[.string o,.slice ua4 qs4.length uc4] 32;have eA:(w4.alloc (.cells #[.string o,.slice ua4 qs4.length uc4] 32)).heap.size=w4.heap.size+1:=by simp
  have bA:=Nm.below_two b4 cA;have bk4:=Bks.cons x4 (bk0.below bA);have bc4:=Nm.below_two cS bA;have bw4:=Nm.below_two bwc bA;have z4A:=z4.below cA;have rx:=fun i=>blk_cell (bk4.get 0 rfl) i
  clear ry ky3 bk0 cS bA cA z4 x4 hwc;go_wp2_with fail
  refine(him _ qs4 _ hq4 z4A.read).mono ?_;rintro e w6 ⟨v6,qs6,rfl,hq6,z6,b6⟩;rw [eA] at z6;obtain⟨ga,gc,rfl⟩:=own_sl z6.outer;have lt6:=Nm.hide (zfp_lt z6);have ge6:=Nm.hide (zfp_ge z6);have s6:=b6.size;rw [eA] at s6;have cC:=(Below.refl w6.heap.size w6).alloc (Nat.le_refl _) (.cells #[.int .i64 zk,.slice ga qs6.length gc,.bool zw,.string zt] 28);have k6:=blk_new w6 #[.int .i64 zk,.slice ga qs6.length gc,.bool zw,.string zt] 28;have bC:=Nm.below_two b6 cC;have bk6:=Bks.cons k6 (bk4.below bC);have bc6:=Nm.below_two bc4 bC;have bw6:=Nm.below_two bw4 bC;have z46:=z4A.below bC;have z66:=z6.below cC;have r6:=fun i=>blk_cell (bk6.get 0 rfl) i
  have rc:=fun i=>blk_cell (bk6.get 3 rfl) i
  clear rx bk4 bc4 bC z4A z6 cC k6 bw4;go_wp2_with fail
  refine(heq _ _ qs6 qs0 _ hq6 hq0 z66.zrow (HZ0.out _ bc6)).mono ?_;rintro e w7 ⟨rfl,b7⟩;have bk7:=bk6.below b7;have bc7:=Nm.below_two bc6 b7;have bw7:=Nm.below_two bw6 b7;have z47:=z46.below b7;have z67:=z66.below b7;clear r6 rc bk6 bc6 z46 z66 bw6;go_upto_region 12 with fail
  have bd:=(Below.refl w7.heap.size w7).drew;refine wp_region_last (fun X=>Blk X w.heap.size #[.string o,.slice va ps.length vc] 24∧Blk X w4.heap.size #[.string o,.slice ua4 qs4.length uc4] 32) 1000 (by kernel_rfl) ⟨blk_drew (bk7.get 2 rfl),blk_drew (bk7.get 1 rfl)⟩ (fun hHeld=>?_);refine tkL (i:=0) (v:=?_) rfl ?_ ?_;rotate_left 1
  ·(rintro W ⟨s1,s2⟩;have ss1:=(fun i=>blk_cell s1 i);have ss2:=(fun i=>blk_cell s2 i);go_simp;try (with_reducible rfl))
  refine tkL (i:=1) (v:=?_) rfl ?_ ?_;rotate_left 1
  ·(rintro W ⟨s1,s2⟩;have ss1:=(fun i=>blk_cell s1 i);have ss2:=(fun i=>blk_cell s2 i);go_simp;try (with_reducible rfl))
  refine wpAnyL_one (i:=2) (by kernel_rfl) rfl (fun K hK=>?_);go_simp;refine(hto1 _ (Nm.below_two bw7 bd)).mono ?_;rintro e wn ⟨un,qsn,rfl,hqn,zn,bn⟩;have b1n:=Nm.below_two bd bn;go_wp2_with fail
  refine hK.out _ _ ⟨blk_below (bk7.get 2 rfl) b1n,blk_below (bk7.get 1 rfl) b1n⟩ (fun hHeld=>?_);clear hK K;refine wpAnyL_one (i:=3) (by kernel_rfl) rfl (fun K hK=>?_);go_simp;refine(hez _ _ qs4 qsn _ hq4 hqn (z47.below b1n).read zn.read).mono ?_;rintro e w9 ⟨rfl,bn2⟩;have b2n:=Nm.below_two b1n bn2;go_wp2_with fail
  refine hK.out _ _ ⟨blk_below (bk7.get 2 rfl) b2n,blk_below (bk7.get 1 rfl) b2n⟩ (fun hHeld=>?_);clear hK K;refine tkL (i:=4) (v:=?_) rfl ?_ ?_;rotate_left 1
  ·(rintro W ⟨s1,s2⟩;have ss1:=(fun i=>blk_cell s1 i);have ss2:=(fun i=>blk_cell s2 i);go_simp;try (with_reducible rfl))
  refine wpAnyL_done (by kernel_rfl) ?_;have bk9:=bk7.below b2n;have bc9:=Nm.below_two bc7 b2n;have bw9:=Nm.below_two bw7 b2n;have z49:=z47.below b2n;have z69:=z67.below b2n;clear bk7 bc7 z47 z67 bw7;clear b1n bn bn2 zn hqn b2n bd hez;have n1:zl qs4<=6000000:=by have h:=zl_le qs4;have e:=congrArg List.length hq4;rw [zsum_same hq4] at h;simp at e;omega
  have hm1:=markZone_mk o _ qs4 wc.heap.size w4.heap.size 1 w9 z49 hC4 hD4 (by omega) (by decide);obtain⟨K1,hK1⟩:∃ K1:Nat,K1=1+zl qs4:=⟨_,rfl⟩;rw [<- hK1] at hm1;have p2:(0:Int)<=(K1:Int):=by omega
  have hz9:w6.heap.size<w9.heap.size:=blk_lt (bk9.get 0 rfl);clear hK1 n1;have rx:=fun i=>blk_cell (bk9.get 1 rfl) i
  go_wp2_with fail
  go_at_call 11
  refine hm1.mono ?_;rintro e w10 ⟨rfl,m1⟩
  have bk10:=bk9.keep (w':=w10) (fun x hx=>m1.block _ (blk_lt (bk9 x hx)) (by
   simp only [List.mem_cons,List.not_mem_nil,or_false] at hx
   rcases hx with rfl|rfl|rfl|rfl
   ·exact .inr (by show w4.heap.size<=w6.heap.size;omega)
   ·exact .inr (Nat.le_refl _)
   ·exact .inl (by show w.heap.size<wc.heap.size;omega)
   ·exact .inl (by show w3.heap.size<wc.heap.size;omega)))
  have bc10:Below w3.heap.size w3 w10:=bc9.trans (m1.down (by omega) bc9.size);have z610:=z69.keep (w':=w10) (fun g hg=>m1.block g (zfp_lt z69 g hg) (.inr (by have:=ge6.out g hg;omega)));have bw10:Below w.heap.size w w10:=bw9.trans (m1.down (by omega) bw9.size);have hz10:=m1.size;clear rx bk9 bc9 z49 z69 bw9 hm1;have r6:=fun i=>blk_cell (bk10.get 0 rfl) i
  have rc:=fun i=>blk_cell (bk10.get 3 rfl) i
  go_wp2_with fail
  refine(heq _ _ qs6 qs0 _ hq6 hq0 z610.zrow (HZ0.out _ bc10)).mono ?_;rintro e w12 ⟨rfl,b12⟩;have bk12:=bk10.below b12;have bc12:=Nm.below_two bc10 b12;have z612:=z610.below b12;have bw12:=Nm.below_two bw10 b12;have hmz:=markStep_own zk zw zt _ qs6 (w4.heap.size+1) 1 w12 z612 (hzl.out qs6 hq6).1 (by decide);have hhz:=fun W g=>heldStep_any zk zw zt (.slice ga qs6.length gc) qs6 1 W g (hzl.out qs6 hq6).1 (by decide)
  obtain⟨N,hN⟩:∃ N:Nat,N=1+zl qs6:=⟨_,rfl⟩;rw [<- hN] at hmz hhz;have hNp:(0:Int)<=(N:Int):=by omega
  have hNn:((N:Int) != (N:Int))=false:=by simp
  clear r6 rc bk10 bc10 z610 bw10 hN;have r6:=fun i=>blk_cell (bk12.get 0 rfl) i
  go_wp2_with fail
  go_at_call 12
  refine hmz.mono ?_;rintro e w13 ⟨rfl,zm13,ou13⟩
  have bk13:=bk12.keep (w':=w13) (fun x hx=>by
   refine ou13.block _ (blk_lt (bk12 x hx)) (fun hm=>?_);have g1:=ge6.out _ hm;have g2:=lt6.out _ hm;simp only [List.mem_cons,List.not_mem_nil,or_false] at hx
   rcases hx with rfl|rfl|rfl|rfl<;>simp only at g1 g2<;>omega)
  have bc13:Below w3.heap.size w3 w13:=bc12.trans (outs_base ou13 bc12.size (fun g hg=>by have:=ge6.out g hg;omega));have bw13:Below w.heap.size w w13:=bw12.trans (outs_base ou13 bw12.size (fun g hg=>by have:=ge6.out g hg;omega));have r13:=fun i=>blk_cell (bk13.get 0 rfl) i
  clear r6 bk12 bc12 z612 bw12 hmz ou13;go_wp2_with fail
  go_at_call 13
  refine(hhz _ zm13.zrow).mono ?_;rintro e wq ⟨rfl,b14⟩;have bkq:=bk13.below b14;have bcq:=Nm.below_two bc13 b14;have zmq:=zm13.below b14;have bwq:=Nm.below_two bw13 b14;have rq:=fun i=>blk_cell (bkq.get 2 rfl) i
  clear r13 bk13 bc13 zm13 bw13 b14;go_wp2_with fail
  refine(hto1 _ bwq).mono ?_;rintro e w14 ⟨u14,qs14,rfl,hq14,z14,b14⟩;obtain⟨ua14,uc14,hu14⟩:=own_sl z14.1;subst hu14;clear rq;go_wp2_with fail
  refine(him _ qs14 _ hq14 z14.read).mono ?_;rintro e w15 ⟨v15,qsE,rfl,hqE,zE,b15⟩;obtain⟨saE,scE,rfl⟩:=own_sl zE.outer;have cE:=(Below.refl w15.heap.size w15).alloc (Nat.le_refl _) (.cells #[.int .i64 zk,.slice saE qsE.length scE,.bool zw,.string zt] 28);have kE:=blk_new w15 #[.int .i64 zk,.slice saE qsE.length scE,.bool zw,.string zt] 28;have bE:=Nm.below_two (Nm.below_two b14 b15) cE;have bkE:=bkq.below bE;have bcE:=Nm.below_two bcq bE;have zmE:=zmq.below bE;have bwE:=Nm.below_two bwq bE;have zE':=zE.below cE;have rE:=fun i=>blk_cell kE i
  have rE0:=fun i=>blk_cell (bkE.get 3 rfl) i
  clear bkq bcq zmq bwq bE b14 b15 cE zE z14 him hto1 kE;go_wp2_with fail
  refine(heq _ _ qsE qs0 _ hqE hq0 zE'.zrow (HZ0.out _ bcE)).mono ?_;rintro e w20 ⟨rfl,b20⟩;have r20:=fun i=>blk_cell ((bkE.below b20).get 0 rfl) i
  have bw20:=Nm.below_two bwE b20;clear rE rE0;go_wp2_with fail
  go_at_call 13
  refine(hhz _ (zmE.below b20).zrow).mono ?_;rintro e w21 ⟨rfl,b21⟩;go_wp2;go_ret;exact⟨rfl,Nm.below_two bw20 b21⟩
 ·have e1:szZ o ps 1048576= -1:=if_neg hb;rw [e1] at hsz;clear hb e1 hx;unfold maxLen at hn;go_enter Tryz.func3,Tryz.ntmps3;go_wp2_with fail
  go_at_call 5
  refine hsz.mono ?_;rintro e w1 ⟨rfl,b1⟩;go_wp2;go_ret;exact⟨rfl,Nm.below_two b0 b1⟩
end Go.Proofs.YtcodajnebegdiaaGreat
