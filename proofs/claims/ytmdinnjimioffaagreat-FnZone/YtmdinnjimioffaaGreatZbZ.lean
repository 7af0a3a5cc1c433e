import Derived.Test.YtmdinnjimioffaaGreatJZbG
import Derived.Test.YtmdinnjimioffaaGreatZbR
import Derived.Test.YtmdinnjimioffaaGreatZbS
import Derived.Test.YtmdinnjimioffaaGreatJTrP
import Derived.Test.YtmdinnjimioffaaGreatJOrdL
import Derived.Test.YtmdinnjimioffaaGreatZbL
namespace Go.Proofs.YtmdinnjimioffaaGreat
open Go.RowKit
set_option linter.unusedVariables false
def BzPost(list:List Rr)(apex:ByteArray)(w:World)(e:Ending)(w':World):Prop:=
 Below w.heap.size w w'∧((bldE list apex).1=0->∃ v ps,e=.returned (.tuple #[.agg #[.string apex,v],.int .i64 0,.int .i64 0])∧ps.map (·.1)=bldZ list∧ZOwn w' w.heap.size v ps)∧
  ((bldE list apex).1≠0->e=.returned (.tuple #[.agg #[.string ByteArray.empty,.slice none 0 0],.int .i64 (bldE list apex).1,.int .i64 (bldE list apex).2]))
theorem bz_bad{list:List Rr}{apex:ByteArray}{w w':World}{c i:Int}(hb:Below w.heap.size w w')(h:bldE list apex=(c,i))(hc:c≠0):BzPost list apex w (.returned (.tuple #[.agg #[.string ByteArray.empty,.slice none 0 0],.int .i64 c,.int .i64 i])) w':=
 ⟨hb,fun h0=>absurd (by rw [h] at h0;exact h0) hc,fun _=>by rw [h]⟩
theorem bz_back{W:World}{b:Nat}{x0 x1:Value}{c i:Int}{R:Ending->World->Prop}{a:Act}(h:Blk W b #[x0,x1] 28)
 (h4:a.tmps[4]? =some (.pointer (some ⟨b,0,none⟩))) (h5:a.tmps[5]? =some (.int .i64 c)) (h6:a.tmps[6]? =some (.int .i64 i)) (hd:a.defers=[])
 (hR:R (.returned (.tuple #[.agg #[x0,x1],.int .i64 c,.int .i64 i])) W):bodyPost Tryz.prog Tryz.f5 R .ret a W:=by
 refine bodyPost_ret ?_ hd hR;have r:=fun i=>blk_cell h i
 simp [results,Tryz.results5,go_sem,Result.andThen,r,h4,h5,h6]
theorem fold_le(s:ByteArray)(h:s.size<=maxLen):(Nm.foldS s).size<=maxLen:=by
 unfold Nm.foldS;split
 ·rw [Nm.small_size];exact h
 ·unfold maxLen;simp
set_option maxRecDepth 100000 in
set_option maxHeartbeats 6400000 in
theorem specBuildZone_any(v:Value)(list:List Rr)(apex:ByteArray)(w:World)(h:CRow w v list.length 5 (rvVs list))(hl:list.length<=1048576)(ha:apex.size<=maxLen)(ho:∀ r∈list,r.own.size<=maxLen):
 Calls Tryz.prog 5 #[v,.string apex] w (BzPost list apex w):=by
 obtain⟨i0,hi,hz0,hz1,hz2⟩:=info_parts Tryz.infoItem;have hN:=fun W=>specNameOK_any apex W ha
 have hB1:=(Below.refl w.heap.size w).alloc (Nat.le_refl _) (.cells #[.string ByteArray.empty,.slice none 0 0] 28);have hk1:=blk_new w #[.string ByteArray.empty,.slice none 0 0] 28;have hrow:=h.below hB1;obtain⟨_,a,cap,rfl,hcap,hmx,_⟩:=h;unfold maxLen at hmx;have hE:bldE list apex=_:=rfl;have HE:=Nm.hide hE;unfold bldE at hE
 cases hsp:(Nm.split apex).isSome with
 |false=>
  have HR:Hid (bldE list apex=(32,-1)):=by show _=_;rw [bldE,if_pos hsp]
  simp only [hsp] at hN;have hN':=hN (w.alloc (.cells #[.string ByteArray.empty,.slice none 0 0] 28));clear hE HE hrow;go_enter Tryz.func5,Tryz.ntmps5;go_wp2_with fail
  refine hN'.mono ?_;rintro e w1 ⟨rfl,b1⟩;have k1:=blk_below hk1 b1;have r1:=fun i=>blk_cell k1 i
  have f1:=fun i=>blk_frozen k1 i
  have X:=Nm.hide (And.intro (setAll_new [.string ByteArray.empty,.slice none 0 0] k1 rfl) (Nm.below_two hB1 b1));simp only [setAll,Nat.zero_add] at X;go_wp2;refine bz_back X.out.1 rfl rfl rfl rfl ?_
  exact bz_bad ((X.out.2.setCell (Nat.le_refl _) _).setCell (Nat.le_refl _) _) HR.out (by decide)
 |true=>
  simp only [hsp] at hN;have hN':=hN (w.alloc (.cells #[.string ByteArray.empty,.slice none 0 0] 28))
  by_cases hbig:500<list.length
  ·have HR:Hid (bldE list apex=(12,-1)):=by show _=_;rw [bldE,if_neg (by simp [hsp]),if_pos hbig]
   have hb':(500:Int)<(list.length:Int):=by omega
   clear hE HE hrow hN;go_enter Tryz.func5,Tryz.ntmps5;go_wp2_with fail
   refine hN'.mono ?_;rintro e w1 ⟨rfl,b1⟩;have k1:=blk_below hk1 b1;have r1:=fun i=>blk_cell k1 i
   have f1:=fun i=>blk_frozen k1 i
   have X:=Nm.hide (And.intro (setAll_new [.string ByteArray.empty,.slice none 0 0] k1 rfl) (Nm.below_two hB1 b1));simp only [setAll,Nat.zero_add] at X;go_wp2;refine bz_back X.out.1 rfl rfl rfl rfl ?_;exact bz_bad ((X.out.2.setCell (Nat.le_refl _) _).setCell (Nat.le_refl _) _) HR.out (by decide)
  ·have hb':(list.length:Int)<=500:=by omega
   have HR:Hid (bldE list apex=match badOne apex list 0 with
    |some (c,i)=>(c,(i:Int))
    |none=>if 0<=badI (list.map itemOf) then(24,badI (list.map itemOf)) else if(rulesI (itsOf list) (Nm.foldS apex)).1≠0 then rulesI (itsOf list) (Nm.foldS apex) else(0,0)):=by show _=_;rw [bldE,if_neg (by simp [hsp]),if_neg hbig];rfl
   clear hE HE hN hl;go_enter Tryz.func5,Tryz.ntmps5;go_wp2_with fail
   refine hN'.mono ?_;rintro e w1 ⟨rfl,b1⟩;have k1:=blk_below hk1 b1;have B1:=Nm.below_two hB1 b1;have hrow1:=hrow.below b1;have hsz1:w.heap.size<w1.heap.size:=blk_lt k1;have o0:=World.ownsRow_lit (base:=w1.heap.size) (e:=58) (size:=8) w1 #[] 0 (Nat.le_refl _) (by decide) rfl;have HROW:=Nm.hide (And.intro hrow1 k1);clear hN' hB1 hk1 hrow b1 hrow1 k1;go_wp2
   go_loopw [7,8] (fun vl vi wr=>∃ k:Nat,k<=list.length∧vi=.int .i64 k∧Hid (∀ (j:Nat) (r:Rr),j<k->list[j]? =some r->oneC r apex=0)∧wr.ownsRow w1.heap.size 58 8 vl k (itCs ((list.take k).map itemOf))∧Below w1.heap.size w1 wr) (fun _ vi _=>list.length-(intOf vi).toNat)
   case atStart=>exact⟨0,Nat.zero_le _,rfl,by show ∀ _,_;intro j r hj;omega,o0,(Below.refl _ _).alloc (Nat.le_refl _) _⟩
   case round=>
    clear o0;obtain⟨k,hk,rfl,HA,oL,hbel⟩:=hrel
    by_cases hlt:k<list.length
    ·obtain⟨r,hr⟩:∃ r,list[k]? =some r:=⟨_,List.getElem?_eq_getElem hlt⟩;have hone:=l06One_any r apex wr (ho r (List.mem_of_getElem? hr)) ha
     have hS:∀ W,Below w1.heap.size w1 W->(∃ b off,a=some ⟨b,off,none⟩∧W.cell? ⟨b,off+k*5,none⟩=some (.string r.own)∧W.cell? ⟨b,off+k*5+1,none⟩=some (.int .i64 r.ty)∧W.cell? ⟨b,off+k*5+2,none⟩=some (.int .i64 r.cl)∧W.cell? ⟨b,off+k*5+3,none⟩=some (.int .i64 r.tt)∧W.cell? ⟨b,off+k*5+4,none⟩=some (.string r.da)):=by
      intro W hW;obtain⟨_,a',c',e',_,_,hc⟩:=HROW.out.1.below hW;simp only [Value.slice.injEq] at e';obtain⟨rfl,_,rfl⟩:=e';obtain⟨b,off,rfl,hcell⟩:=hc (by omega);exact⟨b,off,rfl,rv_cells hcell hr⟩
     obtain⟨b,off,rfl,c0,c1,c2,c3,c4⟩:=hS wr hbel;have n1:(0:Int)<=(k:Int):=by omega
     have n2:(k:Int)<(list.length:Int):=by omega
     have HX:=Nm.hide hr;clear hr
     by_cases hc0:oneC r apex=0
     ·have hS':∀ W,Below w1.heap.size w1 W->(W.cell? ⟨b,off+k*5,none⟩=some (.string r.own)∧W.cell? ⟨b,off+k*5+1,none⟩=some (.int .i64 r.ty)∧W.cell? ⟨b,off+k*5+2,none⟩=some (.int .i64 r.cl)∧W.cell? ⟨b,off+k*5+3,none⟩=some (.int .i64 r.tt)∧W.cell? ⟨b,off+k*5+4,none⟩=some (.string r.da)):=by
       intro W hW;obtain⟨b',off',e,hh⟩:=hS W hW;cases e
       exact hh
      have hc1:(oneC r apex != 0)=false:=by simp [hc0]
      have HA2:Hid (∀ (j:Nat) (x:Rr),j<k+1->list[j]? =some x->oneC x apex=0):=by
       intro j x hj hx
       by_cases hjk:j=k
       ·subst hjk;rw [HX.out] at hx;obtain rfl:=Option.some.inj hx;exact hc0
       ·exact HA.out j x (by omega) hx
      have HT:Hid (itCs ((list.take k).map itemOf)++itC (itemOf r)=itCs ((list.take (k+1)).map itemOf)):=by
       show _=_
       obtain⟨hk',e⟩:=List.getElem?_eq_some_iff.1 HX.out;rw [List.take_succ_eq_append_getElem hk',e,List.map_append,<- itCs_snoc];rfl
      have hfn:=fun W=>specFoldName_any r.own W (ho r (List.mem_of_getElem? HX.out))
      have hfd:=fun W=>specFoldData_any r.ty r.da W
      rw [itemOf] at HT;generalize Nm.foldS r.own=FN at*;generalize foldR r.ty r.da=FD at*;clear hS HA;obtain⟨la,lc,hlv⟩:=own_sl oL;subst hlv;rw [hc0] at hone;clear hc0 hc1;go_wp2_with fail
      refine hone.mono ?_;rintro e w2 ⟨rfl,b2⟩;go_wp2;refine wp_region_last (fun W=>W.cell? ⟨b,off+k*5,none⟩=some (.string r.own)∧W.cell? ⟨b,off+k*5+1,none⟩=some (.int .i64 r.ty)∧W.cell? ⟨b,off+k*5+2,none⟩=some (.int .i64 r.cl)∧W.cell? ⟨b,off+k*5+3,none⟩=some (.int .i64 r.tt)∧W.cell? ⟨b,off+k*5+4,none⟩=some (.string r.da)) 1000 (by kernel_rfl) (hS' _ (Nm.below_two hbel b2.drew)) (fun hHeld=>?_);refine tkL (i:=0) (v:=?_) rfl ?_ ?_;rotate_left 1
      ·(intro W hSW;obtain⟨z0,z1,z2,z3,z4⟩:=hSW;go_simp;try (with_reducible rfl))
      refine tkL (i:=1) (v:=?_) rfl ?_ ?_;rotate_left 1
      ·(intro W hSW;obtain⟨z0,z1,z2,z3,z4⟩:=hSW;go_simp;try (with_reducible rfl))
      refine tkL (i:=2) (v:=?_) rfl ?_ ?_;rotate_left 1
      ·(intro W hSW;obtain⟨z0,z1,z2,z3,z4⟩:=hSW;go_simp;try (with_reducible rfl))
      refine tkL (i:=3) (v:=?_) rfl ?_ ?_;rotate_left 1
      ·(intro W hSW;obtain⟨z0,z1,z2,z3,z4⟩:=hSW;go_simp;try (with_reducible rfl))
      refine tkL (i:=4) (v:=?_) rfl ?_ ?_;rotate_left 1
      ·(intro W hSW;obtain⟨z0,z1,z2,z3,z4⟩:=hSW;go_simp;try (with_reducible rfl))
      refine tkL (i:=5) (v:=?_) rfl ?_ ?_;rotate_left 1
      ·(intro W hSW;obtain⟨z0,z1,z2,z3,z4⟩:=hSW;go_simp;try (with_reducible rfl))
      refine tkL (i:=6) (v:=?_) rfl ?_ ?_;rotate_left 1
      ·(intro W hSW;obtain⟨z0,z1,z2,z3,z4⟩:=hSW;go_simp;try (with_reducible rfl))
      refine tkL (i:=7) (v:=?_) rfl ?_ ?_;rotate_left 1
      ·(intro W hSW;obtain⟨z0,z1,z2,z3,z4⟩:=hSW;go_simp;try (with_reducible rfl))
      refine tkL (i:=8) (v:=?_) rfl ?_ ?_;rotate_left 1
      ·(intro W hSW;obtain⟨z0,z1,z2,z3,z4⟩:=hSW;go_simp;try (with_reducible rfl))
      refine tkL (i:=9) (v:=?_) rfl ?_ ?_;rotate_left 1
      ·(intro W hSW;obtain⟨z0,z1,z2,z3,z4⟩:=hSW;go_simp;try (with_reducible rfl))
      refine tkL (i:=11) (v:=?_) rfl ?_ ?_;rotate_left 1
      ·(intro W hSW;obtain⟨z0,z1,z2,z3,z4⟩:=hSW;go_simp;try (with_reducible rfl))
      refine tkL (i:=12) (v:=?_) rfl ?_ ?_;rotate_left 1
      ·(intro W hSW;obtain⟨z0,z1,z2,z3,z4⟩:=hSW;go_simp;try (with_reducible rfl))
      refine tkL (i:=13) (v:=?_) rfl ?_ ?_;rotate_left 1
      ·(intro W hSW;obtain⟨z0,z1,z2,z3,z4⟩:=hSW;go_simp;try (with_reducible rfl))
      refine tkL (i:=14) (v:=?_) rfl ?_ ?_;rotate_left 1
      ·(intro W hSW;obtain⟨z0,z1,z2,z3,z4⟩:=hSW;go_simp;try (with_reducible rfl))
      refine tkL (i:=15) (v:=?_) rfl ?_ ?_;rotate_left 1
      ·(intro W hSW;obtain⟨z0,z1,z2,z3,z4⟩:=hSW;go_simp;try (with_reducible rfl))
      refine tkL (i:=16) (v:=?_) rfl ?_ ?_;rotate_left 1
      ·(intro W hSW;obtain⟨z0,z1,z2,z3,z4⟩:=hSW;go_simp;try (with_reducible rfl))
      refine tkL (i:=17) (v:=?_) rfl ?_ ?_;rotate_left 1
      ·(intro W hSW;obtain⟨z0,z1,z2,z3,z4⟩:=hSW;go_simp;try (with_reducible rfl))
      refine tkL (i:=18) (v:=?_) rfl ?_ ?_;rotate_left 1
      ·(intro W hSW;obtain⟨z0,z1,z2,z3,z4⟩:=hSW;go_simp;try (with_reducible rfl))
      refine tkL (i:=19) (v:=?_) rfl ?_ ?_;rotate_left 1
      ·(intro W hSW;obtain⟨z0,z1,z2,z3,z4⟩:=hSW;go_simp;try (with_reducible rfl))
      refine tkL (i:=20) (v:=?_) rfl ?_ ?_;rotate_left 1
      ·(intro W hSW;obtain⟨z0,z1,z2,z3,z4⟩:=hSW;go_simp;try (with_reducible rfl))
      refine wpAnyL_one (i:=10) (by kernel_rfl) rfl (fun K hK=>?_);go_simp;refine(hfn _).mono ?_;rintro e w3 ⟨rfl,b3⟩;go_wp2_with fail
      have b23:Below wr.heap.size wr w3:=Nm.below_two b2.drew b3;refine hK.out _ _ (hS' _ (Nm.below_two hbel b23)) (fun _=>?_);clear hK K;refine wpAnyL_one (i:=21) (by kernel_rfl) rfl (fun K hK=>?_);go_simp;refine(hfd _).mono ?_;rintro e w4 ⟨rfl,b4⟩;go_wp2_with fail
      have b24:Below wr.heap.size wr w4:=Nm.below_two b23 b4;refine hK.out _ _ (hS' _ (Nm.below_two hbel b24)) (fun hHeld=>?_);clear hK K;refine tkL (i:=22) (v:=?_) rfl ?_ ?_;rotate_left 1
      ·(intro W hSW;obtain⟨z0,z1,z2,z3,z4⟩:=hSW;go_simp;try (with_reducible rfl))
      refine wpAnyL_one (i:=23) (by kernel_rfl) rfl (fun K hK=>?_);go_simp;refine hK.out _ _ (hS' _ (Nm.below_two hbel (b24.alloc b24.size _))) (fun _=>?_);clear hK K;refine wpAnyL_one (i:=24) (by kernel_rfl) rfl (fun K hK=>?_);refine step_append_own rfl (.tmp 45) (.tmp 68) 53 rfl w1.heap.size 58 i0 _ 8 96 Tryz.underlying53 hi hz0 hz1 hz2 rfl (by decide) _ _ _ (by rfl) (own_below (own_below oL b24) ((Below.refl _ _).alloc (Nat.le_refl _) _)) ⟨w4.heap.size,0,none⟩ 1 1 [.string r.own,.int .i64 r.ty,.int .i64 r.cl,.int .i64 r.tt,.string r.da,.string FN,.string FD,.bool false] (by rfl) rfl (cell_newV _ _ _) (by intro u hu;simp at hu;rcases hu with rfl|rfl|rfl|rfl|rfl|rfl|rfl|rfl<;>rfl) (by unfold maxLen;omega) (by omega) (by have:=hbel.size;have:=b24.size;simp;omega) ?_;intro va wa ho9 hg9 hnl9;have b9:Below w1.heap.size w1 wa:=((Nm.below_two hbel b24).alloc (Nm.below_two hbel b24).size _).grown hg9 (by have:=hbel.size;have:=b24.size;simp;omega) (fun g hg=>(oL.lt g hg).1);rw [show(itCs ((list.take k).map itemOf)++[.string r.own,.int .i64 r.ty,.int .i64 r.cl,.int .i64 r.tt,.string r.da,.string FN,.string FD,.bool false])=itCs ((list.take (k+1)).map itemOf) from HT.out] at ho9;refine hK.out _ _ (hS' _ b9) (fun _=>?_);clear hK K;refine tkL (i:=25) (v:=?_) rfl ?_ ?_;rotate_left 1
      ·(intro W hSW;obtain⟨z0,z1,z2,z3,z4⟩:=hSW;go_simp;try (with_reducible rfl))
      refine wpAnyL_done (by kernel_rfl) ?_;go_wp2;go_roundw
      case rel=>exact⟨k+1,by omega,by go_num,HA2,ho9,b9⟩
      case measure=>simp [intOf];omega
     ·have HB:Hid (bldE list apex=(oneC r apex,(k:Int))):=by
       show _=_
       rw [HR.out,badOne_at list k 0 r HA.out HX.out hc0];simp
      have hc1:(oneC r apex != 0)=true:=by simpa using hc0
      have HC:=Nm.hide hc0;clear hc0 hS HA;generalize oneC r apex=C at*;go_wp2_with fail
      refine hone.mono ?_;rintro e w2 ⟨rfl,b2⟩;have k2:=blk_below (blk_below HROW.out.2 hbel) b2;have r2:=fun i=>blk_cell k2 i
      have f2:=fun i=>blk_frozen k2 i
      have B2:=Nm.below_two (Nm.below_two B1 hbel) b2;have X:=Nm.hide (And.intro (setAll_new [.string ByteArray.empty,.slice none 0 0] k2 rfl) B2);simp only [setAll,Nat.zero_add] at X;go_wp2;refine bz_back X.out.1 rfl rfl rfl rfl ?_;exact bz_bad ((X.out.2.setCell (Nat.le_refl _) _).setCell (Nat.le_refl _) _) HB.out HC.out
    ·obtain rfl:k=list.length:=by omega
     have n3:(list.length:Int)<=(list.length:Int):=by omega
     rw [List.take_length] at oL;have hil:(list.map itemOf).length=list.length:=List.length_map ..
     have HR2:Hid (bldE list apex=if 0<=badI (list.map itemOf) then(24,badI (list.map itemOf)) else if(rulesI (itsOf list) (Nm.foldS apex)).1≠0 then rulesI (itsOf list) (Nm.foldS apex) else(0,0)):=by
      show _=_
      rw [HR.out,badOne_no list 0 HA.out]
     have htw:=l06Twice_any _ (list.map itemOf) w1.heap.size wr (by rw [hil];exact oL) hbel.size (by omega);rw [hil] at htw
     have hru:=fun W v (h:CRow W v (itsOf list).length 8 (itCs (itsOf list)))=>l06Rules_any v (itsOf list) apex W h (by rw [itsOf,twI_len,hil];omega) ha (by
      intro x hx;obtain⟨i,hi⟩:=List.getElem?_of_mem hx;have hlt:=(List.getElem?_eq_some_iff.1 hi).1;rw [itsOf,twI_len] at hlt;have h2:=twI_get (List.getElem?_eq_getElem hlt);rw [itsOf,h2] at hi;obtain rfl:=Option.some.inj hi;simp only [outI,List.getElem_map,itemOf]
      exact fold_le _ (ho _ (List.getElem_mem _)))
     have hitl:(itsOf list).length=list.length:=by rw [itsOf,twI_len,hil]
     rw [hitl] at hru;rw [show twI (list.map itemOf)=itsOf list from rfl] at htw;clear HA HR hil;generalize badI (list.map itemOf)=BD at*;obtain⟨la,lc,hlv⟩:=own_sl oL;subst hlv;go_wp2_with fail
     refine htw.mono ?_;rintro e w2 ⟨rfl,o2,b2⟩;have k2:Blk w2 w.heap.size #[.string ByteArray.empty,.slice none 0 0] 28:=((hbel.trans b2).block _ hsz1).trans HROW.out.2;have B2:Below w.heap.size w w2:=B1.trans ((hbel.trans b2).mono (by omega));have r2:=fun i=>blk_cell k2 i
     have f2:=fun i=>blk_frozen k2 i
     clear htw oL
     by_cases hbd:0<=BD
     ·have HB:Hid (bldE list apex=(24,BD)):=by show _=_;rw [HR2.out,if_pos hbd]
      have X:=Nm.hide (And.intro (setAll_new [.string ByteArray.empty,.slice none 0 0] k2 rfl) B2);simp only [setAll,Nat.zero_add] at X;clear hru HR2;go_wp2;refine bz_back X.out.1 rfl rfl rfl rfl ?_;exact bz_bad ((X.out.2.setCell (Nat.le_refl _) _).setCell (Nat.le_refl _) _) HB.out (by decide)
     ·have hbd':BD<0:=by omega
      have hru2:=hru w2 _ (CRow.of_owns o2);clear hru;generalize hRU:rulesI (itsOf list) (Nm.foldS apex)=RU at*;obtain⟨rc,ri⟩:=RU;simp only at hru2 HR2
      clear hRU;go_wp2_with fail
      refine hru2.mono ?_;rintro e w3 ⟨rfl,b3⟩;have k3:=blk_below k2 b3;have B3:=Nm.below_two B2 b3;have o3:=own_below o2 b3;have r3:=fun i=>blk_cell k3 i
      have f3:=fun i=>blk_frozen k3 i
      clear r2 f2 k2 B2 o2 hru2
      by_cases hrc:rc=0
      ·subst hrc;have HB:Hid ((bldE list apex).1=0):=by show _=_;rw [HR2.out,if_neg (by omega),if_neg (by simp)]
       have nrc:((0:Int) != 0)=false:=rfl
       have hfoI:∀ x∈itsOf list,x.fo.size<=maxLen:=by
        intro x hx;obtain⟨i,hi⟩:=List.getElem?_of_mem hx;have hlt:=(List.getElem?_eq_some_iff.1 hi).1;rw [itsOf,twI_len] at hlt;have h2:=twI_get (List.getElem?_eq_getElem hlt);rw [itsOf,h2] at hi;obtain rfl:=Option.some.inj hi;simp only [outI,List.getElem_map,itemOf];exact fold_le _ (ho _ (List.getElem_mem _))
       have HSRT:Hid (sortF (restOf list).length (restOf list)=srtOf list):=rfl;have HBZ:Hid (grpK (itsOf list) (srtOf list) (srtOf list).length=bldZ list):=rfl;have HRS:Hid ((itsOf list).filter (fun x=> !x.out)=restOf list):=rfl;have HC3:=Nm.hide (CRow.of_owns o3);have o0:=World.ownsRow_lit (base:=w3.heap.size) (e:=58) (size:=8) w3 #[] 0 (Nat.le_refl _) (by decide) rfl;have HK3:=Nm.hide (And.intro k3 B3);have hsz3:w.heap.size<w3.heap.size:=blk_lt k3;have HFO:=Nm.hide hfoI;have HITL:=Nm.hide hitl;clear HR2 hbd hbd' k3 B3 o3 r3 f3 hfoI HROW b2 b3 hbel hitl;generalize itsOf list=its at*;go_wp2
       go_loopw [13,14] (fun vr vi wr=>∃ (k:Nat) (R:List It),k<=list.length∧vi=.int .i64 k∧Hid ((its.take k).filter (fun x=> !x.out)=R∧R.length<=k)∧wr.ownsRow w3.heap.size 58 8 vr R.length (itCs R)∧Below w3.heap.size w3 wr) (fun _ vi _=>list.length-(intOf vi).toNat)
       case atStart=>exact⟨0,[],Nat.zero_le _,rfl,⟨by simp,Nat.le_refl _⟩,o0,(Below.refl _ _).alloc (Nat.le_refl _) _⟩
       case round=>
        clear o0;obtain⟨k,R,hk,rfl,HRR,oR,hbel⟩:=hrel;obtain⟨ra,rcp,hrv⟩:=own_sl oR;subst hrv
        by_cases hlt:k<list.length
        ·obtain⟨x,hx⟩:∃ x,its[k]? =some x:=⟨_,List.getElem?_eq_getElem (by have:=HITL.out;omega)⟩;obtain⟨_,a',c',e',_,_,hc⟩:=HC3.out.below hbel;simp only [Value.slice.injEq] at e';obtain⟨rfl,_,rfl⟩:=e';obtain⟨b,off,rfl,hcell⟩:=hc (by omega);obtain⟨c0,c1,c2,c3,c4,c5,c6,c7⟩:=it_cells hcell hx;have n1:(0:Int)<=(k:Int):=by omega
         have n2:(k:Int)<(list.length:Int):=by omega
         have HTK:Hid (its.take (k+1)=its.take k++[x]):=by
          show _=_
          obtain⟨hk',e⟩:=List.getElem?_eq_some_iff.1 hx;rw [List.take_succ_eq_append_getElem hk',e]
         clear hcell hc hx
         cases hO:x.out with
         |true=>
          rw [hO] at c7;go_wp2;go_roundw
          case rel=>exact⟨k+1,R,by omega,by go_num,⟨by rw [HTK.out,List.filter_append,HRR.out.1];simp [hO],by have:=HRR.out.2;omega⟩,oR,hbel⟩
          case measure=>simp [intOf];omega
         |false=>
          have HX:Hid (itCs R++itC x=itCs (R++[x])):=(itCs_snoc R x).symm;have hRk:=HRR.out.2;have HRk:=Nm.hide hRk;rw [hO] at c7;go_wp2_with (at_builtin;refine wpList_append_own _ rfl (.tmp 100) (.tmp 105) 53 rfl w3.heap.size 58 i0 _ 8 96 Tryz.underlying53 hi hz0 hz1 hz2 rfl (by decide) _ _ _ rfl (own_below oR ((Below.refl _ _).alloc (Nat.le_refl _) _)) ⟨wr.heap.size,0,none⟩ 1 1 [.string x.r.own,.int .i64 x.r.ty,.int .i64 x.r.cl,.int .i64 x.r.tt,.string x.r.da,.string x.fo,.string x.dt,.bool false] rfl rfl (cell_newV _ _ _) (by intro u hu;simp at hu;rcases hu with rfl|rfl|rfl|rfl|rfl|rfl|rfl|rfl<;>rfl) (by unfold maxLen;omega) (by omega) (by have:=hbel.size;simp;omega) ?_;intro va wa ho9 hg9 hnl9)
          rw [show(itCs R++[.string x.r.own,.int .i64 x.r.ty,.int .i64 x.r.cl,.int .i64 x.r.tt,.string x.r.da,.string x.fo,.string x.dt,.bool false])=itCs (R++[x]) from by rw [<- HX.out,itC,hO]] at ho9;go_wp2;go_roundw
          case rel=>exact⟨k+1,R++[x],by omega,by go_num,⟨by rw [HTK.out,List.filter_append,HRR.out.1];simp [hO],by have:=HRk.out;simp;omega⟩,by simpa using ho9,(hbel.alloc hbel.size _).grown hg9 (by have:=hbel.size;simp;omega) (fun g hg=>(oR.lt g hg).1)⟩
          case measure=>simp [intOf];omega
        ·obtain rfl:k=list.length:=by omega
         have n3:(list.length:Int)<=(list.length:Int):=by omega
         have HRL:Hid (R=restOf list):=by
          show _=_
          have h1:=HRR.out.1;rw [List.take_of_length_le (by rw [HITL.out];omega),HRS.out] at h1;exact h1.symm
         have hrl:=HRR.out.2;have hso:=l06Sort_any R.length _ R wr (CRow.of_owns oR) (Nat.le_refl _) (by omega) (fun x hx=>HFO.out x (by rw [HRL.out,<- HRS.out] at hx;exact(List.mem_filter.1 hx).1));have HSL:Hid ((sortF R.length R).length=R.length):=sortF_len _ _;have HSE:Hid (sortF R.length R=srtOf list):=by show _=_;rw [HRL.out];exact HSRT.out
         have HLE:=Nm.hide hrl;clear HRR HRS HSRT HRL hrl;generalize sortF R.length R=S at*;go_wp2_with fail
         refine hso.mono ?_;rintro e w5 ⟨u5,rfl,hS5,b5⟩;obtain⟨ua,uc,hu5⟩:∃ a c,u5=.slice a R.length c:=by obtain⟨_,a,c,e,_⟩:=hS5;exact⟨a,c,e⟩
         subst hu5;have b35:Below w3.heap.size w3 w5:=Nm.below_two hbel b5;have k5:Blk w5 w.heap.size #[.string ByteArray.empty,.slice none 0 0] 28:=(b35.block _ hsz3).trans HK3.out.1;have B5:Below w.heap.size w w5:=HK3.out.2.trans (b35.mono (by omega));have hsz5:w.heap.size<w5.heap.size:=blk_lt k5;have HC5:=Nm.hide (And.intro (HC3.out.below b35) (And.intro hS5 (And.intro k5 B5)));have X:=Nm.hide (And.intro (blk_new w5 #[.string apex,.slice none 0 0] 28) ((Below.refl w5.heap.size w5).alloc (Nat.le_refl _) (.cells #[.string apex,.slice none 0 0] 28)));clear hso oR hbel b5 b35 k5 B5 hS5 HK3 HC3;go_wp2;refine gen_worldZ (Pr:=fun W=>Blk W w5.heap.size #[.string apex,.slice none 0 0] 28∧Below w5.heap.size w5 W) (G:=fun W=>Code.wp _ _ _ _ W) X.out ?_;rintro w6 ⟨kz6,b6⟩;clear X;refine zone_sets its S apex _ _ list.length R.length _ _ _ w5 w6 (by have:=HLE.out;omega) (by omega) HSL HITL (And.intro HC5.out.1 HC5.out.2.1) kz6 b6 _ _ _ _ _ _ _ _ _ _ _ _ _ _ _ _ _ _ _ _ _ _ _ _ _ _ _ _ _ _ _ _ _ _ _ _ _ _ _ _ _ _ _ _ _ _ _ _ _ _ _ _ _ _ _ _ _ _ _ _ _ _ _ _ _ _ _ _ _ _ _ _ _ _ _ _ _ _ _ _ _ _ _ _ _ _ _ _ _ _ _ _ _ _ _ _ _ _ _ _ _ _ _ _ _ _ _ _ _ _ _ _ _ _ _ _ _ _ _ _ _ _ _ _ _ _ _ _ _ _ _ _ _ _ _ _ _ _ _ _ _ _ _ _ _ _ _ _ _ _ _ _ _ _ _ _ _ _ _ _ _ _ _ _ _ _ _ _ _ _ _ _ _ _ _ _ _ _ _ _ _ _ _ ?_;rintro u16 u17 u18 u111 u112 u113 u114 u115 u116 u117 u118 u119 u120 u121 u122 u123 u124 u125 u126 u127 u128 u129 u130 u131 u132 u133 u134 u135 u136 u137 u138 u139 u140 u141 u142 u143 u144 u145 u146 u147 u148 u149 u150 u151 u152 u153 u154 u155 u156 u157 u158 u159 u160 u161 u162 u163 u164 u165 u166 u167 u168 u169 u170 u171 u172 u173 u174 u175 u176 u177 u178 u179 u180 u181 u182 u183 u184 u185 w7 ⟨vs,ps,kz,hZ,hG,hbel⟩;obtain⟨va,vc,hvs⟩:=own_sl hZ.outer;subst hvs;have kq:=(hbel.block _ hsz5).trans HC5.out.2.2.1;have rz:=fun i=>blk_cell kz i
         have rq:=fun i=>blk_cell (show Blk w7 w.heap.size _ _ from kq) i
         have fq:=fun i=>blk_frozen (show Blk w7 w.heap.size _ _ from kq) i
         have BW:Below w.heap.size w w7:=HC5.out.2.2.2.trans (hbel.mono (by omega));have X:=Nm.hide (And.intro (setAll_new [.string apex,.slice va ps.length vc] (show Blk w7 w.heap.size _ _ from kq) rfl) (And.intro ((BW.setCell (p:=⟨w.heap.size,0,none⟩) (Nat.le_refl _) (.string apex)).setCell (p:=⟨w.heap.size,1,none⟩) (Nat.le_refl _) (.slice va ps.length vc)) ((hZ.far (g:=w.heap.size) (i:=0) (y:=.string apex) (by omega)).far (g:=w.heap.size) (i:=1) (y:=.slice va ps.length vc) (by omega))));simp only [setAll,Nat.zero_add] at X
         have HZB:Hid (ps.map (·.1)=bldZ list):=by
          show _=_
          rw [hG,<- HBZ.out,<- HSE.out]
         clear kq hZ hG;go_wp2;refine bz_back X.out.1 rfl rfl rfl rfl ?_;exact⟨X.out.2.1,fun _=>⟨_,ps,rfl,HZB.out,X.out.2.2.base (by omega)⟩,fun h=>absurd HB.out h⟩
      ·have HB:Hid (bldE list apex=(rc,ri)):=by show _=_;rw [HR2.out,if_neg (by omega),if_pos hrc]
       have HRC:=Nm.hide hrc;have nrc:(rc != 0)=true:=by simpa using hrc
       have X:=Nm.hide (And.intro (setAll_new [.string ByteArray.empty,.slice none 0 0] k3 rfl) B3);simp only [setAll,Nat.zero_add] at X;clear hrc;go_wp2;refine bz_back X.out.1 rfl rfl rfl rfl ?_;exact bz_bad ((X.out.2.setCell (Nat.le_refl _) _).setCell (Nat.le_refl _) _) HB.out HRC.out
end Go.Proofs.YtmdinnjimioffaaGreat
