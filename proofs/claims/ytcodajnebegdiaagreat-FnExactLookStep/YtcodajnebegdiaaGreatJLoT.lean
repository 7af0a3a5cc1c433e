import Derived.Test.YtcodajnebegdiaaGreatJLoS
import Derived.Test.YtcodajnebegdiaaGreatJFnS
import Derived.Test.YtcodajnebegdiaaGreatJMakeOk
import Derived.Test.YtcodajnebegdiaaGreatJLoC
import Derived.Test.YtcodajnebegdiaaGreatJGrT
namespace Go.Proofs.YtcodajnebegdiaaGreat
open Go.RowKit
set_option linter.unusedVariables false
theorem ZOwn.setB{B g:Nat}{T:TypeId}{v:Value}{ps:List Zp}(h1:76≠T)(h2:9≠T):∀ (vs:List Value) (i:Nat) (cs:Array Value) (W:World),ZOwn W B v ps->Blk W g cs T->ZOwn (setAll W g i vs) B v ps
 |[],_,_,_,z,_=>z
 |y::vs,i,cs,W,z,k=>ZOwn.setB h1 h2 vs (i+1) _ _ (z.beside (grown_setC W g i y) (fun g' e=>by cases e;exact own_nb z.outer k h1) (fun g' e p hp=>by
  cases e
  obtain⟨j,hj⟩:=List.getElem?_of_mem hp
  exact own_nb (z.inner j p hj) k h2)) (blk_set k i y)
theorem tail_kd(s:Sz)(r:ByteArray×Int):(r.2=0∧tailS s r=⟨6,[s],false,r.1⟩)∨(r.2≠0∧tailS s r=⟨7,[s],false,⟨#[]⟩⟩):=by
 by_cases h:r.2=0
 ·exact .inl ⟨h,if_pos h⟩
 ·exact .inr ⟨h,if_neg h⟩
set_option maxRecDepth 100000 in
set_option maxHeartbeats 1600000 in
theorem tailStep_any(lab clo:List ByteArray)(na ca:Option Addr)(nc cc:Nat)(s:Sz)(u:Value)(d0:ByteArray)(rest zs:List ByteArray)(B:Nat)(w:World)(hn:Nm.SRow w (.slice na lab.length nc) lab)(hgl:Gl lab)(hlt:clo.length<lab.length)(hs:s.da=d0::rest)(hz:Nm.split d0=some zs)(hd0:d0.size<=maxLen)(hu:w.ownsRow B 9 1 u s.da.length (s.da.map Value.string))(hB:B<=w.heap.size):
 Calls Tryz.prog 58 #[.slice na lab.length nc,.slice ca clo.length cc,.agg #[.string s.own,.int .i64 s.ty,.int .i64 s.tt,u]] w fun e w'=>∃ v,e=.returned (.agg #[.int .i64 (tailS s (makeS (lab.take (lab.length-clo.length)++zs))).kd,v,.bool false,.string (tailS s (makeS (lab.take (lab.length-clo.length)++zs))).tgt])∧ZOwn w' B v [(s,u)]∧Below w.heap.size w w':=by
 have hzs:=(Nm.split_join hz).2;have hzz:=Nm.split_size hz;have hla:=Nm.length_le_wsum lab;have hlc:=Nm.length_le_wsum zs;have hw2:=hgl.2
 have hwire:=make_wire_ok (ls:=lab.take (lab.length-clo.length)++zs) (by
  intro x hx
  rcases List.mem_append.1 hx with h|h
  ·exact hgl.1 x (List.mem_of_mem_take h)
  ·exact hzs x h)
 rw [hwire];have hwt:=Nm.wsum_take_le lab (lab.length-clo.length);have hwa:=Nm.wsum_append (lab.take (lab.length-clo.length)) zs;obtain⟨d,hdd⟩:∃ d,d=lab.length-clo.length:=⟨_,rfl⟩;rw [<- hdd] at hwt hwa ⊢;have hq:(lab.length:Int)-(clo.length:Int)=(d:Int):=by omega
 have hdl:d<=lab.length:=by omega
 have hsd:=fun W=>splitName_any d0 W hd0
 rw [hz] at hsd;simp only [Option.isSome_some,Option.getD_some] at hsd;obtain⟨x,ty,tt,da⟩:=s;simp only at hs hu ⊢
 subst hs;have hwz:Nm.wsum (lab.take d++zs)<=1000000000:=by omega
 obtain⟨nb,noff,rfl⟩:∃ b off,na=some ⟨b,off,none⟩:=by
  obtain⟨a,cap,e,-,-,-,h4⟩:=hn;obtain⟨b,off,e2,-⟩:=h4 (by intro h;rw [h] at hlt;simp at hlt);simp only [Value.slice.injEq] at e;exact⟨b,off,by rw [e.1,e2]⟩
 have hcap:lab.length<=nc:=by
  obtain⟨a,cap,e,h1,-⟩:=hn;simp only [Value.slice.injEq] at e;omega
 have ht:=SRow_take hn hdl;simp only [List.length_cons,List.map_cons] at hu;obtain⟨ug,uc,rfl⟩:=ownsRow_succ hu
 have cD:w.cell? ⟨ug,0,none⟩=some (.string d0):=by
  rw [hu.cellAt 0 (by omega)];rfl
 have b0:=((Below.refl w.heap.size w).alloc (Nat.le_refl _) (.cells #[.string x,.int .i64 ty,.int .i64 tt,.slice (some ⟨ug,0,none⟩) (rest.length+1) uc] 76)).alloc (by simp) (.cells st0A 28);have kS:=blk_alloc (blk_new w #[.string x,.int .i64 ty,.int .i64 tt,.slice (some ⟨ug,0,none⟩) (rest.length+1) uc] 76) (.cells st0A 28);have kR:=blk_new (w.alloc (.cells #[.string x,.int .i64 ty,.int .i64 tt,.slice (some ⟨ug,0,none⟩) (rest.length+1) uc] 76)) st0A 28;rw [World.size_alloc] at kR;obtain⟨W0,hW0⟩:∃ W0,(w.alloc (.cells #[.string x,.int .i64 ty,.int .i64 tt,.slice (some ⟨ug,0,none⟩) (rest.length+1) uc] 76)).alloc (.cells st0A 28)=W0:=⟨_,rfl⟩;rw [hW0] at b0 kS kR;have cD0:W0.cell? ⟨ug,0,none⟩=some (.string d0):=(b0.cell (p:=⟨ug,0,none⟩) (World.block_lt_of_cell? w _ cD)).trans cD;have ht0:=ht.below b0;have hu0:=own_below hu b0;have rS:=fun i=>blk_cell kS i
 have j1:(0:Int)<((rest.length+1:Nat):Int):=by omega
 have HT:=Nm.hide (tail_kd ⟨x,ty,tt,d0::rest⟩ (wireS (lab.take d++zs),wireC (lab.take d++zs)));clear hn ht hu cD hwire hdd hwt hwa hgl hzs hz;have hwr0:=fun v W h=>wire_any v (lab.take d++zs) W h hwz
 generalize wireS (lab.take d++zs)=X at*;generalize wireC (lab.take d++zs)=Y at*;go_enter Tryz.func58,Tryz.ntmps58;go_wp2_with fail
 refine(hsd _).mono ?_;rintro e w1 ⟨v1,rfl,o1,b1⟩;have k1:=blk_below kS b1;have kR1:=blk_below kR b1;have ht1:=ht0.below b1;have hu1:=own_below hu0 b1;have bw1:=Nm.below_two b0 b1;have r1:=Nm.SRow.of_owns o1;have hjn:=join_any _ _ (lab.take d) zs _ ht1 r1 (by simp;omega) (by omega);clear kS kR ht0 hu0 b0 b1 rS cD0 o1 hsd;go_wp2_with fail
 refine hjn.mono ?_;rintro e w2 ⟨v2,rfl,o2,b2⟩;have k2:=blk_below k1 b2;have kR2:=blk_below kR1 b2;have hu2:=own_below hu1 b2;have bw2:=Nm.below_two bw1 b2;have hwr:=hwr0 v2 _ (Nm.SRow.of_owns o2);clear k1 kR1 hu1 bw1 b2 ht1 r1 hjn o2;go_wp2_with fail
 refine hwr.mono ?_;rintro e w3 ⟨rfl,b3⟩;have k3:=blk_below k2 b3;have kR3:=blk_below kR2 b3;have hu3:=own_below hu2 b3;have bw3:=Nm.below_two bw2 b3;clear k2 kR2 hu2 bw2 b3 hwr;have r3:=fun i=>blk_cell k3 i
 have ca3:=(Below.refl w3.heap.size w3).alloc (Nat.le_refl _) (.cells #[.string x,.int .i64 ty,.int .i64 tt,.slice (some ⟨ug,0,none⟩) (rest.length+1) uc] 76);have kR4:=blk_below kR3 ca3;have bw4:=Nm.below_two bw3 ca3;have z4:=zown_one (s:=⟨x,ty,tt,d0::rest⟩) (u:=.slice (some ⟨ug,0,none⟩) (rest.length+1) uc) hu3 (Nat.le_trans hB bw3.size);have hBw:=bw3.size;have rk:=fun i=>blk_cell kR4 i
 have fk:=fun i=>blk_frozen kR4 i
 clear ca3 hu3 bw3;simp only at z4
 have key:∀ (K:Int) (T:ByteArray),Blk (setAll (w3.alloc (.cells #[.string x,.int .i64 ty,.int .i64 tt,.slice (some ⟨ug,0,none⟩) (rest.length+1) uc] 76)) (w.heap.size+1) 0 (stL4 K (.slice (some ⟨w3.heap.size,0,none⟩) 1 1) false T)) (w.heap.size+1) (stL4 K (.slice (some ⟨w3.heap.size,0,none⟩) 1 1) false T).toArray 28∧Hid (ZOwn (setAll (w3.alloc (.cells #[.string x,.int .i64 ty,.int .i64 tt,.slice (some ⟨ug,0,none⟩) (rest.length+1) uc] 76)) (w.heap.size+1) 0 (stL4 K (.slice (some ⟨w3.heap.size,0,none⟩) 1 1) false T)) B (.slice (some ⟨w3.heap.size,0,none⟩) 1 1) [((⟨x,ty,tt,d0::rest⟩:Sz),Value.slice (some ⟨ug,0,none⟩) (rest.length+1) uc)]∧Below w.heap.size w (setAll (w3.alloc (.cells #[.string x,.int .i64 ty,.int .i64 tt,.slice (some ⟨ug,0,none⟩) (rest.length+1) uc] 76)) (w.heap.size+1) 0 (stL4 K (.slice (some ⟨w3.heap.size,0,none⟩) 1 1) false T))):=by
  intro K T;refine⟨setAll_new _ kR4 rfl,ZOwn.setB (by decide) (by decide) _ 0 _ _ z4 kR4,below_set4 (by omega) _ 0 _ bw4⟩
 rcases HT.out with⟨h0,ht⟩|⟨h0,ht⟩
 ·have h0:Y=0:=h0;subst h0;have HV:=Nm.hide ht;obtain⟨kX,HX⟩:=key 6 X;simp only [setAll,Nat.reduceAdd,Nat.zero_add] at kX HX;have rX:=fun i=>blk_cell kX i
  clear kX key HT ht;go_wp2_with fail
  refine bodyPost_ret (v:=.agg #[.int .i64 6,.slice (some ⟨w3.heap.size,0,none⟩) 1 1,.bool false,.string X]) ?_ rfl ⟨.slice (some ⟨w3.heap.size,0,none⟩) 1 1,by rw [HV.out],HX.out.1,HX.out.2⟩;simp [results,Tryz.f58,go_sem,rX]
 ·have h0:Y≠0:=h0;have h1:(Y != 0)=true:=by simpa using h0
  have HV:=Nm.hide ht;obtain⟨kX,HX⟩:=key 7 ⟨#[]⟩;simp only [setAll,Nat.reduceAdd,Nat.zero_add] at kX HX;have rX:=fun i=>blk_cell kX i
  clear kX key HT ht;go_wp2_with fail
  refine bodyPost_ret (v:=.agg #[.int .i64 7,.slice (some ⟨w3.heap.size,0,none⟩) 1 1,.bool false,.string ⟨#[]⟩]) ?_ rfl ⟨.slice (some ⟨w3.heap.size,0,none⟩) 1 1,by rw [HV.out],HX.out.1,HX.out.2⟩;simp [results,Tryz.f58,go_sem,rX]
set_option maxRecDepth 100000 in
set_option maxHeartbeats 3200000 in
theorem asWild_any(kd:Int)(wl:Bool)(tgt name:ByteArray)(v:Value)(ps:List Zp)(B:Nat)(nv:Value)(lab:List ByteArray)(w:World)(hn:∀ W,Below B w W->Nm.SRow W nv lab)(hw:Nm.wsum lab<=254)(hj:joB lab=name)(hz:ZOwn w B v ps)(hB:B<=w.heap.size)(hl:ps.length<=1000000):
 Calls Tryz.prog 61 #[.agg #[.int .i64 kd,v,.bool wl,.string tgt],nv] w fun e w'=>∃ qs,e=.returned (.agg #[.int .i64 kd,v,.bool true,.string tgt])∧qs.map (·.1)=(ps.map (·.1)).map (ownZ name)∧ZOwn w' B v qs∧Below B w w':=by
 obtain⟨va,vc,rfl⟩:=own_sl hz.outer;have b0:=((Below.refl B w).alloc hB (.cells #[.int .i64 kd,.slice va ps.length vc,.bool wl,.string tgt] 28)).alloc (by simp;omega) (.cells st0A 28);have c0:=((Below.refl w.heap.size w).alloc (Nat.le_refl _) (.cells #[.int .i64 kd,.slice va ps.length vc,.bool wl,.string tgt] 28)).alloc (by simp) (.cells st0A 28);have kS:=blk_alloc (blk_new w #[.int .i64 kd,.slice va ps.length vc,.bool wl,.string tgt] 28) (.cells st0A 28);have kR:=blk_new (w.alloc (.cells #[.int .i64 kd,.slice va ps.length vc,.bool wl,.string tgt] 28)) st0A 28;rw [World.size_alloc] at kR;have z0:=hz.below c0;obtain⟨W0,hW0⟩:∃ W0,(w.alloc (.cells #[.int .i64 kd,.slice va ps.length vc,.bool wl,.string tgt] 28)).alloc (.cells st0A 28)=W0:=⟨_,rfl⟩;rw [hW0] at b0 kS kR z0;have kS1:=blk_set kS 2 (.bool true);simp only [List.setIfInBounds_toArray,List.set_cons_zero,List.set_cons_succ] at kS1;have kR1:Blk (W0.setCell ⟨w.heap.size,2,none⟩ (.bool true)) (w.heap.size+1) _ _:=blk_far kR (by omega)
 have z1:ZOwn (W0.setCell ⟨w.heap.size,2,none⟩ (.bool true)) B _ ps:=z0.beside (grown_setC W0 w.heap.size 2 (.bool true)) (fun g' e=>by cases e;exact own_nb z0.outer kS (by decide)) (fun g' e p hp=>by
  cases e
  obtain⟨j,hj⟩:=List.getElem?_of_mem hp
  exact own_nb (z0.inner j p hj) kS (by decide))
 have b1:Below B w (W0.setCell ⟨w.heap.size,2,none⟩ (.bool true)):=b0.setCell (p:=⟨w.heap.size,2,none⟩) hB _;have rS:=fun i=>blk_cell kS i
 have fS:=fun i=>blk_frozen kS i
 have rS1:=fun i=>blk_cell kS1 i
 have HW:=Nm.hide (fun W (hW:Below B w W)=>by
  have:=wire_any nv lab W (hn W hW) (by omega);rw [wireS_short hw,wireC_short hw] at this;have e:(⟨(Nm.joinL lab).toArray⟩:ByteArray)=name:=hj;rw [e] at this
  exact this)
 clear hn hw hj hz c0 kR z0 b0;go_enter Tryz.func61,Tryz.ntmps61;go_wp2_with fail
 generalize hgg:w.heap.size=g at*;have HGG:=Nm.hide hgg;clear hgg rS fS rS1 kS
 go_loopw [10] (fun i wr=>∃ (k:Nat),k<=ps.length∧i=.int .i64 k∧ZOwn wr B (.slice va ps.length vc) ((ps.map (mapO name)).take k++ps.drop k)∧Below B w wr∧Blk wr g #[.int .i64 kd,.slice va ps.length vc,.bool true,.string tgt] 28∧Blk wr (g+1) st0A 28) (fun i _=>ps.length-(intOf i).toNat)
 case atStart=>exact⟨0,Nat.zero_le _,rfl,by simpa using z1,b1,kS1,kR1⟩
 case round=>
  clear z1 b1 kS1 kR1;obtain⟨k,hk,rfl,zk,bk,kS,kR⟩:=hrel;have rS:=fun i=>blk_cell kS i
  by_cases hlt:k<ps.length
  ·obtain⟨p,hp⟩:∃ p,ps[k]? =some p:=⟨_,List.getElem?_eq_getElem hlt⟩
   obtain⟨gv,hva⟩:∃ gv,va=some ⟨gv,0,none⟩:=by
    have ho:=zk.outer;rw [mixO_len hk] at ho;obtain⟨m,hm⟩:∃ m,ps.length=m+1:=⟨ps.length-1,by omega⟩;rw [hm] at ho;obtain⟨gv,cap,e⟩:=ownsRow_succ ho;simp only [Value.slice.injEq] at e;exact⟨gv,e.1⟩
   subst hva;have n1:(0:Int)<=(k:Int):=by omega
   have n2:(k:Int)<(ps.length:Int):=by omega
   have bd:=(Below.refl wr.heap.size wr).drew;have hBw:B<=wr.heap.size:=by have h1:=bk.size;rw [HGG.out] at h1;omega
   go_upto_region 5 with fail
   refine wp_region_last (fun X=>Blk X g #[.int .i64 kd,.slice (some ⟨gv,0,none⟩) ps.length vc,.bool true,.string tgt] 28) 1000 (by kernel_rfl) (blk_drew kS) (fun hHeld=>?_);refine tkL (i:=0) (v:=?_) rfl ?_ ?_;rotate_left 1
   ·(intro W s1;have ss1:=(fun i=>blk_cell s1 i);go_simp;try (with_reducible rfl))
   refine tkL (i:=1) (v:=?_) rfl ?_ ?_;rotate_left 1
   ·(intro W s1;have ss1:=(fun i=>blk_cell s1 i);go_simp;try (with_reducible rfl))
   refine tkL (i:=2) (v:=?_) rfl ?_ ?_;rotate_left 1
   ·(intro W s1;have ss1:=(fun i=>blk_cell s1 i);go_simp;try (with_reducible rfl))
   refine tkL (i:=3) (v:=?_) rfl ?_ ?_;rotate_left 1
   ·(intro W s1;have ss1:=(fun i=>blk_cell s1 i);go_simp;try (with_reducible rfl))
   refine wpAnyL_one (i:=4) (by kernel_rfl) rfl (fun K hK=>?_);go_simp;refine(HW.out _ (bk.trans (bd.mono hBw))).mono ?_;rintro e w1 ⟨rfl,b1⟩;have c1:=Nm.below_two bd b1;have kS1:=blk_below kS c1;have kR1:=blk_below kR c1;have z1:=zk.below c1;have bk1:=bk.trans (c1.mono hBw);go_wp2_with fail
   refine hK.out _ _ kS1 (fun hHeld=>?_);clear hK K;refine tkL (i:=5) (v:=?_) rfl ?_ ?_;rotate_left 1
   ·(intro W s1;have ss1:=(fun i=>blk_cell s1 i);go_simp;try (with_reducible rfl))
   refine tkL (i:=6) (v:=?_) rfl ?_ ?_;rotate_left 1
   ·(intro W s1;have ss1:=(fun i=>blk_cell s1 i);go_simp;try (with_reducible rfl))
   refine tkL (i:=7) (v:=?_) rfl ?_ ?_;rotate_left 1
   ·(intro W s1;have ss1:=(fun i=>blk_cell s1 i);go_simp;try (with_reducible rfl))
   refine tkL (i:=8) (v:=?_) rfl ?_ ?_;rotate_left 1
   ·(intro W s1;have ss1:=(fun i=>blk_cell s1 i);go_simp;try (with_reducible rfl))
   refine tkL (i:=9) (v:=?_) rfl ?_ ?_;rotate_left 1
   ·(intro W s1;have ss1:=(fun i=>blk_cell s1 i);go_simp;try (with_reducible rfl))
   have hml:=mixO_len (name:=name) hk
   have hcell:w1.cell? ⟨gv,k*4,none⟩=some (.string p.1.own):=by
    have ho:=z1.outer;rw [hml] at ho;rw [ho.cellAt (k*4) (by omega)];exact(zpVs_at _ k 0 p (mixO_at hp) (by decide)).trans rfl
   have hfz:∀ i,w1.frozen? ⟨gv,i,none⟩=false:=by
    have ho:=z1.outer;rw [hml] at ho;exact ho.frozenAt
   have z2:=ZOwn.cell (i:=0) (y:=.string name) (q:=mapO name p) z1 hml.symm (mixO_at hp) (by decide) rfl rfl rfl;rw [Nat.add_zero,mixO_set hp] at z2;have hgB:B<=gv:=(z1.outer.lt gv rfl).1;have b2:Below B w (w1.setCell ⟨gv,k*4,none⟩ (.string name)):=bk1.setCell (p:=⟨gv,k*4,none⟩) hgB _;have hne:∀ {b:Nat} {cs:Array Value},Blk w1 b cs 28->b≠gv:=fun hb e=>own_nb z1.outer hb (by decide) (by rw [e];rfl)
   have kS2:Blk (w1.setCell ⟨gv,k*4,none⟩ (.string name)) g _ _:=blk_far kS1 (hne kS1);have kR2:Blk (w1.setCell ⟨gv,k*4,none⟩ (.string name)) (g+1) _ _:=blk_far kR1 (hne kR1);refine wpAnyL_one (i:=10) (by kernel_rfl) rfl (fun K hK=>?_);clear zk z1 kS kR bk b1 c1 bd hne kS1 kR1 bk1 hml rS;go_simp;refine hK.out _ _ kS2 (fun hHeld=>?_);clear hK K;refine wpAnyL_done (by kernel_rfl) ?_;go_simp;go_wp2;go_roundw
   case rel=>exact⟨k+1,hlt,by go_num,z2,b2,kS2,kR2⟩
   case measure=>simp [intOf];omega
  ·obtain rfl:k=ps.length:=by omega
   have i9:(ps.length:Int)<=(ps.length:Int):=by omega
   have e1:(ps.map (mapO name)).take ps.length++ps.drop ps.length=ps.map (mapO name):=by rw [List.drop_length,List.append_nil,<- List.length_map (f:=mapO name),List.take_length]
   rw [e1] at zk;have kX:=setAll_new [.int .i64 kd,.slice va ps.length vc,.bool true,.string tgt] kR rfl;have HX:Hid (ZOwn (setAll wr (g+1) 0 [.int .i64 kd,.slice va ps.length vc,.bool true,.string tgt]) B (.slice va ps.length vc) (ps.map (mapO name))∧Below B w (setAll wr (g+1) 0 [.int .i64 kd,.slice va ps.length vc,.bool true,.string tgt])):=⟨ZOwn.setB (by decide) (by decide) _ 0 _ _ zk kR,below_set4 (by omega) _ 0 _ bk⟩;simp only [setAll,Nat.reduceAdd,Nat.zero_add] at kX HX;have rX:=fun i=>blk_cell kX i
   have rk:=fun i=>blk_cell kR i
   have fk:=fun i=>blk_frozen kR i
   clear kX zk bk e1;go_wp2;refine bodyPost_ret (v:=.agg #[.int .i64 kd,.slice va ps.length vc,.bool true,.string tgt]) ?_ rfl ⟨ps.map (mapO name),rfl,?_,HX.out.1,HX.out.2⟩
   ·simp [results,Tryz.f61,go_sem,rX]
   ·rw [List.map_map,List.map_map];rfl
end Go.Proofs.YtcodajnebegdiaaGreat
