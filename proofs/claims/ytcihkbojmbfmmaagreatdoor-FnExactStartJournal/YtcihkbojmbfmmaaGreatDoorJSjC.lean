import Derived.Test.YtcihkbojmbfmmaaGreatDoorJFreeB
import Derived.Test.YtcihkbojmbfmmaaGreatDoorJShL7
import Derived.Test.YtcihkbojmbfmmaaGreatDoorJMath
import Derived.Test.YtcihkbojmbfmmaaGreatDoorJBmB
import Derived.Test.YtcihkbojmbfmmaaGreatDoorJCzM
import Derived.Test.YtcihkbojmbfmmaaGreatDoorBzV
import Derived.Test.YtcihkbojmbfmmaaGreatDoorJIBg
import Derived.Test.YtcihkbojmbfmmaaGreatDoorJZnT
import Derived.Test.YtcihkbojmbfmmaaGreatDoorJBzR
import Derived.RegionTactic
import Derived.BigRegion
import Derived.Deep.RegionHeld3
import Derived.Maps.AppendAt
namespace Go.Proofs.YtcihkbojmbfmmaaGreatDoor
open Go.RowKit
set_option linter.unusedVariables false
theorem sj_ext(l:List UInt8)(a b:Nat):(⟨l.toArray⟩:ByteArray).extract a b=⟨((l.drop a).take (b-a)).toArray⟩:=by
 rw [<- ba_mk ((⟨l.toArray⟩:ByteArray).extract a b)];congr 2;simp [ByteArray.data_extract,List.extract]
theorem shaL_len(l:List UInt8):(shaL l).length=32:=by rw [shaL];exact outL_len _
set_option maxRecDepth 100000 in
set_option maxHeartbeats 1600000 in
theorem l12Sum_any(l:List UInt8)(w:World)(hl:l.length<=3000000):
 Calls Tryz.prog 29 #[.string ⟨l.toArray⟩] w fun e w'=>e=.returned (.string ⟨((shaL l).take 4).toArray⟩)∧Below w.heap.size w w':=by
 obtain⟨v0,W0,hcv,hF0,hB0⟩:=FRow.new ⟨l.toArray⟩ w (by rw [ba_size];omega);rw [show(⟨l.toArray⟩:ByteArray).data.toList=l by simp] at hF0;have hsp:=specSha256_any v0 l W0 hF0.read hl;have hst:=fun W=>l09Str_any (shaL l) (shaL_len l) W
 obtain⟨T,hT⟩:∃ T:ByteArray,T=⟨(shaL l).toArray⟩:=⟨_,rfl⟩;rw [<- hT] at hst;have hTz:T.size=32:=by rw [hT,ba_size,shaL_len]
 have HE:Hid ((⟨((shaL l).take 4).toArray⟩:ByteArray)=T.extract 0 4):=by show _=_;rw [hT,sj_ext];rfl
 rw [HE.out];generalize (⟨l.toArray⟩:ByteArray)=S at*;clear hT HE;go_enter Tryz.func29,Tryz.ntmps29;go_wp2_with (first|(go_at_call 55;refine hsp.mono ?_;rintro e w1 ⟨rfl,b1⟩)|(go_at_call 54;refine(hst _).mono ?_;rintro e w2 ⟨rfl,b2⟩))
 go_ret;exact⟨rfl,Nm.below_two (Nm.below_two hB0 b1) b2⟩
set_option maxRecDepth 100000 in
set_option maxHeartbeats 1600000 in
theorem l12Frame_any(l:List UInt8)(w:World)(hl:l.length<=3000000):
 Calls Tryz.prog 15 #[.string ⟨l.toArray⟩] w fun e w'=>e=.returned (.string ⟨(frmP l).toArray⟩)∧Below w.heap.size w w':=by
 have hs:=fun W=>l12Sum_any l W hl
 have hp:=fun W=>l02PutN_any l.length 4 W (by omega) (by decide) (by decide)
 obtain⟨S,hS⟩:∃ S:ByteArray,S=⟨l.toArray⟩:=⟨_,rfl⟩;obtain⟨P,hP⟩:∃ P:ByteArray,P=⟨(bigL l.length 4).toArray⟩:=⟨_,rfl⟩;obtain⟨T,hT⟩:∃ T:ByteArray,T=⟨((shaL l).take 4).toArray⟩:=⟨_,rfl⟩;obtain⟨C1,q1,c1⟩:=sj_cat _ _ P S hP hS (by rw [bigL_len];omega);obtain⟨C2,q2,c2⟩:=sj_cat _ _ C1 T c1 hT (by simp only [List.length_append,bigL_len,List.length_take];omega);have HE:Hid ((⟨(frmP l).toArray⟩:ByteArray)=C2):=by show _=_;rw [c2,frmP]
 have hz:S.size=l.length:=by rw [hS,ba_size]
 rw [HE.out,<- hS];rw [<- hS,<- hT] at hs;rw [<- hP,<- hz] at hp;clear hP hT HE c1 c2;have hzl:S.size<=3000000:=by omega
 clear hS hz;go_enter Tryz.func15,Tryz.ntmps15;go_wp2_with (first|(go_at_call 28;refine(hp _).mono ?_;rintro e w1 ⟨rfl,b1⟩)|(go_at_call 29;refine(hs _).mono ?_;rintro e w2 ⟨rfl,b2⟩))
 go_ret;exact⟨rfl,Nm.below_two b1 b2⟩
end Go.Proofs.YtcihkbojmbfmmaaGreatDoor
namespace Go.Proofs.YtcihkbojmbfmmaaGreatDoor
open Go.RowKit
set_option linter.unusedVariables false
end Go.Proofs.YtcihkbojmbfmmaaGreatDoor
namespace Go.Proofs.YtcihkbojmbfmmaaGreatDoor
open Go.RowKit
set_option linter.unusedVariables false
theorem zOK_rules{ps:List Zp}{o:ByteArray}{al:List ByteArray}(hz:zOK ps o=true)(ha:Nm.split o=some al):badOne o (zoneRecs ps) 0=none∧firstI (ru1 (itsOf (zoneRecs ps)) (Nm.foldS o)) (itsOf (zoneRecs ps))=none∧hasI (itsOf (zoneRecs ps)) (Nm.foldS o) 6=true:=by
 have h0:=(zOK_recs hz).1;rw [bldE,if_neg (by rw [ha];simp)] at h0
 split at h0
 ·exact absurd h0 (by simp)
 ·cases hb:badOne o (zoneRecs ps) 0 with
  |some c=>rw [hb] at h0;exact absurd h0 (bad_some _ _ c.1 c.2 hb)
  |none=>
   rw [hb] at h0;simp only at h0
   split at h0
   ·exact absurd h0 (by simp)
   ·split at h0
    ·rename_i h1;exact absurd h0 h1
    ·rename_i h1;have h1:(rulesI (itsOf (zoneRecs ps)) (Nm.foldS o)).1=0:=by simpa using h1
     rw [rulesI_eq] at h1;refine⟨rfl,?_⟩
     split at h1
     ·exact absurd h1 (by simp)
     ·rename_i hf;refine⟨hf,?_⟩
      split at h1
      ·exact absurd h1 (by simp)
      ·rename_i h2;simpa using h2
def sjR(ps:List Zp)(o:ByteArray):List UInt8×Int:=
 if zOK ps o=true then if 400000<(zonP o (zoneRecs ps)).length+8 then([],11) else(frmP (zonP o (zoneRecs ps)),0) else([],32)
theorem name_ofS{ps:List Zp}{o:ByteArray}(hz:zOK ps o=true):∃ al,Nm.split o=some al:=by
 have h0:=(zOK_recs hz).1;rw [bldE] at h0
 split at h0
 ·cases h0
 ·rename_i h
  cases e:Nm.split o with
  |some al=>exact⟨al,rfl⟩
  |none=>rw [e] at h;simp at h
theorem zOK_rcf{ps:List Zp}{o:ByteArray}(hz:zOK ps o=true)(hf:∀ p∈ps,p.1.own.size<=1048576∧∀ x∈p.1.da,x.size<=1048576):∀ r∈zoneRecs ps,RcF r∧(Nm.split r.own).isSome=true:=by
 intro r hr;obtain⟨al,ha⟩:=name_ofS hz;obtain⟨hb,-,-⟩:=zOK_rules hz ha;have h1:=bad_none _ _ hb r hr;have h2:=recs_fit hf r hr;rw [oneC] at h1
 split at h1
 ·cases h1
 ·rename_i hn
  split at h1
  ·cases h1
  ·rename_i hc
   split at h1
   ·cases h1
   ·rename_i ht
    split at h1
    ·cases h1
    ·rename_i hy;have hc:r.cl=1:=by simpa using hc
     simp at ht;refine⟨⟨h2.1,h2.2,by omega,by omega,by omega⟩,by cases h:(Nm.split r.own).isSome with|false=>exact absurd h hn|true=>rfl⟩
theorem recs_len(own:ByteArray)(ty tt:Int):∀ da:List ByteArray,(rcsP (da.map fun d=>⟨own,ty,1,tt,d⟩)).length=da.length*(own.size+10)+ssum da:=by
 intro da
 induction da with
 |nil=>simp [rcsP,ssum]
 |cons d da ih=>
  rw [List.map_cons,rcsP,List.flatMap_cons,List.length_append,<- rcsP,ih,rcP_len,ssum,List.length_cons,Nat.add_mul];simp only
  omega
theorem rcs_all:∀ ps:List Zp,(∀ r∈recsAll ps,r.own.size<=255)->(rcsP (recsAll ps)).length<=265*dsum ps+zsum ps:=by
 intro ps
 induction ps with
 |nil=>intro _;simp [recsAll,rcsP]
 |cons p ps ih=>
  intro h;have e:recsAll (p::ps)=recsOf p.1++recsAll ps:=by simp [recsAll]
  rw [e] at h ⊢;have h1:=ih fun r hr=>h r (List.mem_append_right _ hr)
  have h2:(rcsP (recsOf p.1)).length=p.1.da.length*(p.1.own.size+10)+ssum p.1.da:=recs_len _ _ _ _
  have h3:p.1.da.length*(p.1.own.size+10)<=265*p.1.da.length:=by
   cases hd:p.1.da with
   |nil=>simp
   |cons d ds=>
    have:p.1.own.size<=255:=h ⟨p.1.own,p.1.ty,1,p.1.tt,d⟩ (List.mem_append_left _ (by simp [recsOf,hd]));rw [<- hd,Nat.mul_comm];exact Nat.mul_le_mul_right _ (by omega)
  rw [rcsP,List.flatMap_append,List.length_append,<- rcsP,<- rcsP,h2,dsum,zsum,zs1];omega
theorem zon_small{ps:List Zp}{o:ByteArray}(hz:zOK ps o=true)(hs:zsum ps<=1048576)(ho:o.size<=1048576)(hf:∀ p∈ps,p.1.own.size<=1048576∧∀ x∈p.1.da,x.size<=1048576):(zoneRecs ps).length<=500∧(rcsP (zoneRecs ps)).length<=1181076∧(zonP o (zoneRecs ps)).length<=2300000:=by
 have h1:=zOK_rcf hz hf
 have e:zoneRecs ps=recsAll ps∧dsum ps<=500:=by
  rw [zoneRecs];split
  ·rename_i h;exfalso
   have hz':=hz;rw [zOK_big h] at hz';cases hz'
  ·exact⟨rfl,by omega⟩
 have h2:(recsAll ps).length=dsum ps:=by
  clear e h1 hf hs hz
  induction ps with
  |nil=>rfl
  |cons p ps ih=>rw [recsAll,List.flatMap_cons,List.length_append,<- recsAll,ih,recsOf_len,dsum]
 have h3:(rcsP (zoneRecs ps)).length<=1181076:=by
  rw [e.1] at h1 ⊢
  have:=rcs_all ps fun r hr=>by
   obtain⟨al,ha⟩:=Option.isSome_iff_exists.1 (h1 r hr).2;exact(Nm.split_size ha).2
  omega
 refine⟨by rw [e.1,h2];exact e.2,h3,?_⟩;rw [zonP];simp only [List.length_append,bigL_len];have:o.data.toList.length=o.size:=by simp
 rw [this];simp
 omega
theorem Tryz.infoRrq:(Tryz.prog.info? 73).map (fun i=>(i.zero,i.size,i.bytes))=some (some (.agg #[.string ByteArray.empty,.int .i64 0,.int .i64 0,.int .i64 0,.string ByteArray.empty]),5,56):=by kernel_rfl
set_option maxRecDepth 100000 in
set_option maxHeartbeats 3200000 in
theorem l06SetRecords_any(s:Sz)(dv:Value)(w:World)(h:Nm.SRow w dv s.da)(hl:s.da.length<=1048576):
 Calls Tryz.prog 52 #[.agg #[.string s.own,.int .i64 s.ty,.int .i64 s.tt,dv]] w fun e w'=>∃ u,e=.returned u∧w'.ownsRow w.heap.size 73 5 u (recsOf s).length (rvVs (recsOf s))∧Below w.heap.size w w':=by
 obtain⟨i0,hi,hz0,hz1,hz2⟩:=info_parts Tryz.infoRrq;have hrl:=recsOf_len s;have hget:=fun(k:Nat) (d:ByteArray) (h:s.da[k]? =some d)=>recsOf_get (s:=s) h
 generalize recsOf s=rs at*;obtain⟨o,ty,tt,da⟩:=s;simp only at*
 have hB0:=(Below.refl w.heap.size w).alloc (Nat.le_refl _) (.cells #[.string o,.int .i64 ty,.int .i64 tt,dv] 58);have hrow:=h.below hB0;have hbx:=blk_new w #[.string o,.int .i64 ty,.int .i64 tt,dv] 58;obtain⟨a,cap,rfl,hcap,hmx,hnl,hc⟩:=hrow;clear h;unfold maxLen at hmx;go_enter Tryz.func52,Tryz.ntmps52;go_wp2;have hsz0:(w.alloc (.cells #[.string o,.int .i64 ty,.int .i64 tt,.slice a da.length cap] 58)).heap.size=w.heap.size+1:=by simp
 generalize w.alloc (.cells #[.string o,.int .i64 ty,.int .i64 tt,.slice a da.length cap] 58)=w0 at*;have o0:=World.ownsRow_lit (base:=w0.heap.size) (e:=73) (size:=5) w0 #[] 0 (Nat.le_refl _) (by decide) rfl
 have hall:∀ W,Below w0.heap.size w0 W->∀ (k:Nat) (x:ByteArray),da[k]? =some x->∃ b off,a=some ⟨b,off,none⟩∧W.cell? ⟨b,off+k,none⟩=some (.string x):=by
  intro W hW k x hx;obtain⟨b,off,rfl,hcell⟩:=hc (by intro h;rw [h] at hx;simp at hx);have h0:=hcell k x hx;exact⟨b,off,rfl,(hW.cell (World.block_lt_of_cell? w0 _ h0)).trans h0⟩
 have hbox:∀ W,Below w0.heap.size w0 W->W.cell? ⟨w.heap.size,0,none⟩=some (.string o)∧W.cell? ⟨w.heap.size,1,none⟩=some (.int .i64 ty)∧W.cell? ⟨w.heap.size,2,none⟩=some (.int .i64 tt)∧W.cell? ⟨w.heap.size,3,none⟩=some (.slice a da.length cap):=by
  intro W hW;have hb:=blk_below hbx hW;exact⟨(blk_cell hb 0).trans rfl,(blk_cell hb 1).trans rfl,(blk_cell hb 2).trans rfl,(blk_cell hb 3).trans rfl⟩
 clear hc hbx
 go_loopw [3,4] (fun vo vi wr=>∃ k:Nat,k<=da.length∧vi=.int .i64 k∧wr.ownsRow w0.heap.size 73 5 vo k (rvVs (rs.take k))∧Below w0.heap.size w0 wr) (fun _ vi _=>da.length-(intOf vi).toNat)
 case atStart=>exact⟨0,Nat.zero_le _,rfl,by rw [<- hsz0];exact o0,(Below.refl _ _).alloc (Nat.le_refl _) _⟩
 case round=>
  obtain⟨k,hk,rfl,oO,hbel⟩:=hrel;clear o0;obtain⟨q0,q1,q2,q3⟩:=hbox wr hbel
  by_cases hlt:k<da.length
  ·obtain⟨x,hx⟩:∃ x,da[k]? =some x:=⟨_,List.getElem?_eq_getElem hlt⟩;obtain⟨b,off,rfl,_⟩:=hall wr hbel k x hx
   have hcx:∀ W,Below w0.heap.size w0 W->W.cell? ⟨w.heap.size,0,none⟩=some (.string o)∧W.cell? ⟨w.heap.size,1,none⟩=some (.int .i64 ty)∧W.cell? ⟨w.heap.size,2,none⟩=some (.int .i64 tt)∧W.cell? ⟨w.heap.size,3,none⟩=some (.slice (some ⟨b,off,none⟩) da.length cap)∧W.cell? ⟨b,off+k,none⟩=some (.string x):=by
    intro W hW;obtain⟨y0,y1,y2,y3⟩:=hbox W hW;obtain⟨b',off',he,hcc⟩:=hall W hW k x hx;cases he
    exact⟨y0,y1,y2,y3,hcc⟩
   have HT:Hid (rvVs (rs.take k)++[.string o,.int .i64 ty,.int .i64 1,.int .i64 tt,.string x]=rvVs (rs.take (k+1))):=by
    show _=_
    rw [hget k x hx,rvVs_app];rfl
   have i1:(0:Int)<=(k:Int):=by omega
   have i2:(k:Int)<(da.length:Int):=by omega
   clear hall hbox hget hx;go_wp2_with fail
   refine wp_region_held_drew (S:=fun W=>Below w0.heap.size w0 W) (by kernel_rfl) hbel.drew (fun hHeld=>?_);clear q0 q1 q2 q3;refine wpAnyH_take (i:=0) (v:=?_) rfl (by kernel_rfl) (by kernel_rfl) (by kernel_rfl) (fun _ _ _ h=>h) (Or.inl ⟨by rfl,?_⟩) (by assumption) ?_;rotate_left 1
   ·(intro W hSW;obtain⟨z0,z1,z2,z3,z4⟩:=hcx W hSW;go_simp;try (with_reducible rfl))
   refine wpAnyH_take (i:=1) (v:=?_) rfl (by kernel_rfl) (by kernel_rfl) (by kernel_rfl) (fun _ _ _ h=>h) (Or.inl ⟨by rfl,?_⟩) (by assumption) ?_;rotate_left 1
   ·(intro W hSW;obtain⟨z0,z1,z2,z3,z4⟩:=hcx W hSW;go_simp;try (with_reducible rfl))
   refine wpAnyH_take (i:=2) (v:=?_) rfl (by kernel_rfl) (by kernel_rfl) (by kernel_rfl) (fun _ _ _ h=>h) (Or.inl ⟨by rfl,?_⟩) (by assumption) ?_;rotate_left 1
   ·(intro W hSW;obtain⟨z0,z1,z2,z3,z4⟩:=hcx W hSW;go_simp;try (with_reducible rfl))
   refine wpAnyH_take (i:=3) (v:=?_) rfl (by kernel_rfl) (by kernel_rfl) (by kernel_rfl) (fun _ _ _ h=>h) (Or.inl ⟨by rfl,?_⟩) (by assumption) ?_;rotate_left 1
   ·(intro W hSW;obtain⟨z0,z1,z2,z3,z4⟩:=hcx W hSW;go_simp;try (with_reducible rfl))
   refine wpAnyH_take (i:=4) (v:=?_) rfl (by kernel_rfl) (by kernel_rfl) (by kernel_rfl) (fun _ _ _ h=>h) (Or.inl ⟨by rfl,?_⟩) (by assumption) ?_;rotate_left 1
   ·(intro W hSW;obtain⟨z0,z1,z2,z3,z4⟩:=hcx W hSW;go_simp;try (with_reducible rfl))
   refine wpAnyH_take (i:=5) (v:=?_) rfl (by kernel_rfl) (by kernel_rfl) (by kernel_rfl) (fun _ _ _ h=>h) (Or.inl ⟨by rfl,?_⟩) (by assumption) ?_;rotate_left 1
   ·(intro W hSW;obtain⟨z0,z1,z2,z3,z4⟩:=hcx W hSW;go_simp;try (with_reducible rfl))
   refine wpAnyH_take (i:=6) (v:=?_) rfl (by kernel_rfl) (by kernel_rfl) (by kernel_rfl) (fun _ _ _ h=>h) (Or.inl ⟨by rfl,?_⟩) (by assumption) ?_;rotate_left 1
   ·(intro W hSW;obtain⟨z0,z1,z2,z3,z4⟩:=hcx W hSW;go_simp;try (with_reducible rfl))
   refine wpAnyH_take (i:=7) (v:=?_) rfl (by kernel_rfl) (by kernel_rfl) (by kernel_rfl) (fun _ _ _ h=>h) (Or.inl ⟨by rfl,?_⟩) (by assumption) ?_;rotate_left 1
   ·(intro W hSW;obtain⟨z0,z1,z2,z3,z4⟩:=hcx W hSW;go_simp;try (with_reducible rfl))
   refine wpAnyH_take (i:=8) (v:=?_) rfl (by kernel_rfl) (by kernel_rfl) (by kernel_rfl) (fun _ _ _ h=>h) (Or.inl ⟨by rfl,?_⟩) (by assumption) ?_;rotate_left 1
   ·(intro W hSW;obtain⟨z0,z1,z2,z3,z4⟩:=hcx W hSW;go_simp;try (with_reducible rfl))
   refine wpAnyH_take (i:=9) (v:=?_) rfl (by kernel_rfl) (by kernel_rfl) (by kernel_rfl) (fun _ _ _ h=>h) (Or.inl ⟨by rfl,?_⟩) (by assumption) ?_;rotate_left 1
   ·(intro W hSW;obtain⟨z0,z1,z2,z3,z4⟩:=hcx W hSW;go_simp;try (with_reducible rfl))
   refine wpAnyH_take (i:=10) (v:=?_) rfl (by kernel_rfl) (by kernel_rfl) (by kernel_rfl) (fun _ _ _ h=>h) (Or.inl ⟨by rfl,?_⟩) (by assumption) ?_;rotate_left 1
   ·(intro W hSW;obtain⟨z0,z1,z2,z3,z4⟩:=hcx W hSW;go_simp;try (with_reducible rfl))
   refine wpAnyH_take (i:=11) (v:=?_) rfl (by kernel_rfl) (by kernel_rfl) (by kernel_rfl) (fun _ _ _ h=>h) (Or.inl ⟨by rfl,?_⟩) (by assumption) ?_;rotate_left 1
   ·(intro W hSW;obtain⟨z0,z1,z2,z3,z4⟩:=hcx W hSW;go_simp;try (with_reducible rfl))
   refine wpAnyH_take (i:=12) (v:=?_) rfl (by kernel_rfl) (by kernel_rfl) (by kernel_rfl) (fun _ _ _ h=>h) (Or.inl ⟨by rfl,?_⟩) (by assumption) ?_;rotate_left 1
   ·(intro W hSW;obtain⟨z0,z1,z2,z3,z4⟩:=hcx W hSW;go_simp;try (with_reducible rfl))
   refine wpAnyH_ready (rs:=[13]) (by kernel_rfl) (by simp) ?_;refine AllReadyH.cons rfl (fun K hK=>?_) AllReadyH.nil;go_simp;refine hK.out _ _ (hHeld.alloc hHeld.size _) (fun _=>?_);clear hK K;refine wpAnyH_ready (rs:=[14]) (by kernel_rfl) (by simp) ?_;refine AllReadyH.cons rfl (fun K hK=>?_) AllReadyH.nil;refine step_append_own rfl (.tmp 13) (.tmp 26) 54 rfl w0.heap.size 73 i0 _ 5 56 Tryz.underlying54 hi hz0 hz1 hz2 rfl (by decide) _ _ _ (by rfl) (own_below oO ((Below.refl _ _).drew.alloc (Nat.le_refl _) _)) ⟨wr.drew.heap.size,0,none⟩ 1 1 [.string o,.int .i64 ty,.int .i64 1,.int .i64 tt,.string x] (by rfl) rfl (cell_newV _ _ _) (by intro u hu;simp at hu;rcases hu with rfl|rfl|rfl|rfl|rfl<;>rfl) (by unfold maxLen;omega) (by omega) (by have:=hHeld.size;simp at this ⊢;omega) ?_;intro va wa hown' hgrow _;rw [HT.out] at hown';have b4:Below w0.heap.size w0 wa:=(hHeld.alloc hHeld.size _).grown hgrow (by have:=hHeld.size;simp at this ⊢;omega) (fun k hk=>(oO.lt k hk).1);refine hK.out _ _ b4 (fun _=>?_);clear hK K hgrow oO hHeld;refine wpAnyH_take (i:=15) (v:=?_) rfl (by kernel_rfl) (by kernel_rfl) (by kernel_rfl) (fun _ _ _ h=>h) (Or.inl ⟨by rfl,?_⟩) (by assumption) ?_;rotate_left 1
   ·(intro W hSW;obtain⟨z0,z1,z2,z3,z4⟩:=hcx W hSW;go_simp;try (with_reducible rfl))
   refine wpAnyH_done (by kernel_rfl) ?_ _;obtain⟨z0,z1,z2,z3,z4⟩:=hcx _ b4;go_wp2;go_roundw
   case rel=>exact⟨k+1,by omega,by go_num,hown',b4⟩
   case measure=>simp [intOf];omega
  ·have hkl:k=da.length:=by omega
   subst hkl;have i2:(da.length:Int)<=(da.length:Int):=by omega
   clear hall hbox hget;rw [List.take_of_length_le (by omega)] at oO;go_wp2;go_ret;refine⟨_,rfl,?_,Nm.below_two hB0 hbel⟩;rw [hrl];exact own_base oO hB0.size
set_option maxRecDepth 100000 in
set_option maxHeartbeats 3200000 in
theorem l06Join_any(a b:Value)(xs ys:List Rr)(B B2:Nat)(w:World)(h:w.ownsRow B 73 5 a xs.length (rvVs xs))(h':w.ownsRow B2 73 5 b ys.length (rvVs ys))(hB:B<=w.heap.size)(hlt:∀ g,a.ownBlock=some g->g<B2)(hn:xs.length+ys.length<=2000000):
 Calls Tryz.prog 51 #[a,b] w fun e w'=>∃ u,e=.returned u∧w'.ownsRow B 73 5 u (xs++ys).length (rvVs (xs++ys))∧Below B w w':=by
 obtain⟨i0,hi,hz0,hz1,hz2⟩:=info_parts Tryz.infoRrq;obtain⟨ba,bc,rfl⟩:=own_sl h';go_enter Tryz.func51,Tryz.ntmps51;go_wp2
 go_loopw [0,5] (fun vo vi wr=>∃ k:Nat,k<=ys.length∧vi=.int .i64 k∧wr.ownsRow B 73 5 vo (xs.length+k) (rvVs (xs++ys.take k))∧wr.ownsRow B2 73 5 (.slice ba ys.length bc) ys.length (rvVs ys)∧(∀ g,vo.ownBlock=some g->(Value.slice ba ys.length bc).ownBlock≠some g)∧B<=wr.heap.size∧Below B w wr) (fun _ vi _=>ys.length-(intOf vi).toNat)
 case atStart=>
  refine⟨0,Nat.zero_le _,rfl,by simpa using h,h',fun g hg e=>?_,hB,Below.refl _ _⟩;have h1:=hlt g hg;have h2:=(h'.lt g e).1;omega
 case round=>
  obtain⟨k,hk,rfl,oO,oY,hap,hBw,hbel⟩:=hrel;clear h h' hlt hB
  by_cases hlt:k<ys.length
  ·obtain⟨x,hx⟩:∃ x,ys[k]? =some x:=⟨_,List.getElem?_eq_getElem hlt⟩;obtain⟨_,ya,yc,hyv,hycap,hymx,hyc⟩:=CRow.of_owns oY;simp only [Value.slice.injEq] at hyv;obtain⟨rfl,_,rfl⟩:=hyv;obtain⟨b,off,rfl,hcell⟩:=hyc (by omega);obtain⟨c0,c1,c2,c3,c4⟩:=rv_cells hcell hx
   have HT:Hid (rvVs (xs++ys.take k)++[.string x.own,.int .i64 x.ty,.int .i64 x.cl,.int .i64 x.tt,.string x.da]=rvVs (xs++ys.take (k+1))):=by
    show _=_
    rw [List.take_add_one,hx,<- List.append_assoc,rvVs_app (xs++ys.take k)];rfl
   have i1:(0:Int)<=(k:Int):=by omega
   have i2:(k:Int)<(ys.length:Int):=by omega
   clear hcell hyc hx;obtain⟨o,ty,cl,tt,da⟩:=x;simp only at c0 c1 c2 c3 c4 HT
   obtain⟨oa,oc,hov⟩:=own_sl oO;subst hov;go_wp2_with (at_builtin;refine wpList_append_own_at _ rfl (.tmp 12) (.tmp 17) 54 rfl B 73 i0 _ 5 56 Tryz.underlying54 hi hz0 hz1 hz2 rfl (by decide) (.slice oa (xs.length+k) oc) (xs.length+k) (rvVs (xs++ys.take k)) rfl (own_below oO ((Below.refl _ _).alloc (Nat.le_refl _) _)) ⟨wr.heap.size,0,none⟩ 1 1 [.string o,.int .i64 ty,.int .i64 cl,.int .i64 tt,.string da] rfl rfl (cell_newV _ _ _) (by intro u hu;simp at hu;rcases hu with rfl|rfl|rfl|rfl|rfl<;>rfl) (by unfold maxLen;omega) (by omega) (by simp;omega) ?_;intro va wa ho9 hg9 hnl9 hat9)
   rw [HT.out] at ho9;have oY2:=own_below oY ((Below.refl _ _).alloc (Nat.le_refl _) (.cells #[.string o,.int .i64 ty,.int .i64 cl,.int .i64 tt,.string da] 73))
   have oY3:wa.ownsRow B2 73 5 (.slice (some ⟨b,off,none⟩) ys.length bc) ys.length (rvVs ys):=by
    refine oY2.kept hg9 ?_
    cases hoa:(Value.slice oa (xs.length+k) oc).ownBlock with
    |none=>right;simp [Value.ownBlock]
    |some g=>right;exact hap g hoa
   have hlty:=(oY.lt b rfl).2
   have hap2:∀ g,va.ownBlock=some g->(Value.slice (some ⟨b,off,none⟩) ys.length bc).ownBlock≠some g:=by
    intro g hg
    rcases hat9 with h9|h9
    ·exact hap g (by rw [<- h9];exact hg)
    ·rw [h9] at hg;simp only [Option.some.injEq,Value.ownBlock,ne_eq] at hg ⊢;simp at hg;omega
   have b4:Below B w wa:=(hbel.alloc hBw _).grown hg9 (by simp;omega) (fun g hg=>(oO.lt g hg).1);have hB4:B<=wa.heap.size:=by have:=hg9.size;simp at this;omega
   clear hat9 hnl9 hg9 oY oY2 oO hap;go_wp2;go_roundw
   case rel=>exact⟨k+1,by omega,by go_num,ho9,oY3,hap2,hB4,b4⟩
   case measure=>simp [intOf];omega
  ·have hkl:k=ys.length:=by omega
   subst hkl;have i2:(ys.length:Int)<=(ys.length:Int):=by omega
   rw [List.take_length] at oO;clear oY hap;go_wp2;go_ret;refine⟨_,rfl,?_,hbel⟩;rw [List.length_append];exact oO
set_option maxRecDepth 100000 in
set_option maxHeartbeats 1600000 in
theorem l06Count_any(o:ByteArray)(v:Value)(ps:List Zp)(w:World)(h:ZRow w v ps)(hs:zsum ps<=1048576)(hl:ps.length<=1048576):
 Calls Tryz.prog 24 #[.agg #[.string o,v]] w fun e w'=>e=.returned (.int .i64 (dsum ps:Int))∧Below w.heap.size w w':=by
 have hds:=dsum_le ps;have hB0:=(Below.refl w.heap.size w).alloc (Nat.le_refl _) (.cells #[.string o,v] 31);have hbx:=blk_new w #[.string o,v] 31;obtain⟨⟨_,a,cap,rfl,hcap,hmx,hc⟩,hd⟩:=h;unfold maxLen at hmx;have hb1:=(blk_cell hbx 1).trans rfl;go_enter Tryz.func24,Tryz.ntmps24;go_wp2
 go_loop [3,4] (fun t i=>∃ k:Nat,k<=ps.length∧i=.int .i64 k∧t=.int .i64 (dsum (ps.take k):Int)) (fun _ i=>ps.length-(intOf i).toNat)
 case atStart=>exact⟨0,Nat.zero_le _,rfl,by simp [dsum]⟩
 case round=>
  obtain⟨k,hk,rfl,rfl⟩:=hrel
  by_cases hlt:k<ps.length
  ·obtain⟨x,hxk⟩:∃ x,ps[k]? =some x:=⟨_,List.getElem?_eq_getElem hlt⟩;obtain⟨b,off,rfl,hcell⟩:=hc (by omega);obtain⟨c0,c1,c2,c3⟩:=zp_cells hcell hxk;have c3':=(hB0.cell (World.block_lt_of_cell? w _ c3)).trans c3;have HS:=dsum_step ps k x hxk;have hs1:=dsum_take_le ps (k+1);obtain⟨da',dc,hdv,_⟩:=hd x (List.mem_of_getElem? hxk);have i1:(0:Int)<=(k:Int):=by omega
   have i2:(k:Int)<(ps.length:Int):=by omega
   have hfin:((dsum (ps.take (k+1)):Nat):Int)=(dsum (ps.take k):Int)+(x.1.da.length:Int):=by omega
   have hbd:(dsum (ps.take k):Int)+(x.1.da.length:Int)<=1048576:=by omega
   clear hxk hcell hc hd;obtain⟨⟨o1,ty,tt,da⟩,dv⟩:=x;simp only at c3' hdv hfin hbd
   subst hdv;generalize hz:dsum (ps.take (k+1))=z1 at*;generalize dsum (ps.take k)=z0 at*;go_wp2
   go_round
   case rel=>exact⟨k+1,by omega,by go_num,by rw [hz,hfin]⟩
   case measure=>simp [intOf];omega
  ·have hkl:k=ps.length:=by omega
   subst hkl;clear hc hd;have i2:(ps.length:Int)<=(ps.length:Int):=by omega
   rw [List.take_length];go_wp2;go_ret;exact⟨rfl,hB0⟩
end Go.Proofs.YtcihkbojmbfmmaaGreatDoor
