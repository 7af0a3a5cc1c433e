import Derived.Test.YtcodajnebegdiaaGreatJMakeOk
import Derived.Test.YtcodajnebegdiaaGreatJZbB
import Derived.Test.YtcodajnebegdiaaGreatJFnS
import Derived.Test.YtcodajnebegdiaaGreatJSSmall
namespace Go.Proofs.YtcodajnebegdiaaGreat
open Go.RowKit
set_option linter.unusedVariables false
theorem fnd_hit{ps:List Zp}{name:ByteArray}{t:Int}{j:Nat}{q:Zp}(hq:ps[j]? =some q)(hb:∀ i p,i<j->ps[i]? =some p->(decide (p.1.ty=t)&&sameS p.1.own name)=false)(h:(decide (q.1.ty=t)&&sameS q.1.own name)=true):fndZ (ps.map (·.1)) name t=some q.1:=by
 induction ps generalizing j with
 |nil=>simp at hq
 |cons p ps ih=>
  rw [fndZ,List.map_cons,List.find?_cons]
  cases j with
  |zero=>
   simp only [List.getElem?_cons_zero,Option.some.injEq] at hq;subst hq
   simp only [h]
  |succ j=>
   have h0:=hb 0 p (by omega) rfl;simp only [h0];exact ih (by simpa using hq) (fun i p' hi hp'=>hb (i+1) p' (by omega) (by simpa using hp'))
theorem fnd_miss{ps:List Zp}{name:ByteArray}{t:Int}(hb:∀ i p,i<ps.length->ps[i]? =some p->(decide (p.1.ty=t)&&sameS p.1.own name)=false):fndZ (ps.map (·.1)) name t=none:=by
 rw [fndZ,List.find?_eq_none];intro z hz;obtain⟨p,hp,rfl⟩:=List.mem_map.1 hz;obtain⟨i,hi⟩:=List.getElem?_of_mem hp;rw [hb i p (List.getElem?_eq_some_iff.1 hi).1 hi];simp
set_option maxRecDepth 100000 in
set_option maxHeartbeats 1600000 in
theorem l06Find_any(o name:ByteArray)(t:Int)(v:Value)(ps:List Zp)(w:World)(h:ZRow w v ps)(hl:ps.length<=1048576)(hf:∀ p∈ps,p.1.own.size<=1048576∧p.1.da.length<=1048576)(hn:name.size<=maxLen):
 Calls Tryz.prog 41 #[.agg #[.string o,v],.string name,.int .i64 t] w (FsP (fndZ (ps.map (·.1)) name t) w):=by
 obtain⟨va,vc,rfl⟩:∃ va vc,v=.slice va ps.length vc:=by obtain⟨⟨_,a,c,e,_⟩,_⟩:=h;exact⟨a,c,e⟩
 have b0:=(Below.refl w.heap.size w).alloc (Nat.le_refl _) (.cells #[.string o,.slice va ps.length vc] 32);have b1:=b0.alloc b0.size (.cells #[.string ⟨#[]⟩,.int .i64 0,.int .i64 0,.slice none 0 0] 76);have k0:=blk_alloc (blk_new w #[.string o,.slice va ps.length vc] 32) (.cells #[.string ⟨#[]⟩,.int .i64 0,.int .i64 0,.slice none 0 0] 76);have kS:=blk_new (w.alloc (.cells #[.string o,.slice va ps.length vc] 32)) #[.string ⟨#[]⟩,.int .i64 0,.int .i64 0,.slice none 0 0] 76;rw [World.size_alloc] at kS;have HZ:=Nm.hide (fun W (hW:Below w.heap.size w W)=>h.below hW);have HF:=Nm.hide hf;have HG:Hid (∀ W,Below w.heap.size w W->w.heap.size<=W.heap.size):=fun W hW=>hW.size
 clear h hf b0;go_enter Tryz.func41,Tryz.ntmps41;go_wp2_with fail
 generalize hgg:w.heap.size=g at*;have HGG:=Nm.hide hgg;clear hgg
 go_loopw [8] (fun i wr=>∃ (j:Nat),j<=ps.length∧i=.int .i64 j∧Below g w wr∧Blk wr g #[.string o,.slice va ps.length vc] 32∧Blk wr (g+1) #[.string ⟨#[]⟩,.int .i64 0,.int .i64 0,.slice none 0 0] 76∧∀ i p,i<j->ps[i]? =some p->(decide (p.1.ty=t)&&sameS p.1.own name)=false) (fun i _=>ps.length-(intOf i).toNat)
 case atStart=>exact⟨0,Nat.zero_le _,rfl,b1,k0,kS,fun i p hi=>by omega⟩
 case round=>
  clear b1 k0 kS;obtain⟨j,hj,rfl,hb,kz,ks,hno⟩:=hrel;have HNO:=Nm.hide hno;have hgw:=HG.out _ hb;have rz:=fun i=>blk_cell kz i
  clear hno
  by_cases hlt:j<ps.length
  ·obtain⟨q,hq⟩:∃ q,ps[j]? =some q:=⟨_,List.getElem?_eq_getElem hlt⟩;have hzr:=HZ.out _ hb;obtain⟨⟨_,a9,c9,e9,_,_,hc9⟩,hd9⟩:=hzr;simp only [Value.slice.injEq] at e9;obtain⟨rfl,_,rfl⟩:=e9;obtain⟨b,off,rfl,hcell⟩:=hc9 (by omega);obtain⟨d0,d1,d2,d3⟩:=zp_cells hcell hq;have hfq:=HF.out q (List.mem_of_getElem? hq);have hsr:=hd9 q (List.mem_of_getElem? hq);have n1:(0:Int)<=(j:Int):=by omega
   have n2:(j:Int)<(ps.length:Int):=by omega
   have hsm:=specSameName_any q.1.own name wr (by unfold maxLen;omega) hn;have HQ:=Nm.hide hq;have HSR:=Nm.hide hsr;clear hc9 hd9 hcell hq hsr;obtain⟨⟨x,ty,tt,ds⟩,u⟩:=q;simp only at d0 d1 d2 d3 hsm hfq
   obtain⟨ua,uc,hu⟩:∃ ua uc,u=.slice ua ds.length uc:=by obtain⟨a,c,e,_⟩:=HSR.out;exact⟨a,c,e⟩
   subst hu
   by_cases hty:ty=t
   ·subst hty;have t1:(ty==ty)=true:=by simp
    cases hsb:sameS x name with
    |true=>
     rw [hsb] at hsm;have HR:Hid (fndZ (ps.map (·.1)) name ty=some ⟨x,ty,tt,ds⟩):=fnd_hit HQ.out HNO.out (by simp [hsb]);clear hsb;go_wp2_with fail
     refine hsm.mono ?_;rintro e w1 ⟨rfl,b1⟩;have kz1:=blk_below kz b1;have ks1:=blk_below ks b1;have bw1:=hb.trans (b1.mono hgw);have rz1:=fun i=>blk_cell kz1 i
     have up:=fun {O:Nat} {z:Value} (hz:wr.cell? ⟨b,O,none⟩=some z)=>(b1.cell (World.block_lt_of_cell? wr _ hz)).trans hz
     have f0:=up d0;have f1:=up d1;have f2:=up d2;have f3:=up d3;have hcp:=l06CopySet_any ⟨x,ty,tt,ds⟩ (.slice ua ds.length uc) w1 (HSR.out.below b1) (by have:=hfq.2;simp only;omega);simp only at hcp
     clear rz d0 d1 d2 d3 hsm up kz;go_wp2_with fail
     refine hcp.mono ?_;rintro e w2 ⟨u2,rfl,ho2,b2⟩;obtain⟨xa,xc,rfl⟩:=own_sl ho2;have ks2:=blk_below ks1 b2;have cz:=fun i=>blk_cell ks2 i
     have fz:=fun i=>blk_frozen ks2 i
     have hg1:=HG.out _ bw1;have bw2:=bw1.trans (b2.mono hg1);rw [<- HGG.out] at bw2;obtain⟨k4,ho4,bw4⟩:=set_store (x:=x) (ty:=ty) (tt:=tt) ks2 ho2 (fun e=>by have h1:=(ho2.lt _ e).1;have h2:=blk_lt ks1;omega) bw2 (by rw [HGG.out];exact Nat.le_succ _);have rk:=fun i=>blk_cell k4 i
     have HP0:FsP (some ⟨x,ty,tt,ds⟩) w (.returned (.tuple #[.agg #[.string x,.int .i64 ty,.int .i64 tt,.slice xa ds.length xc],.bool true])) _:=⟨_,rfl,own_base ho4 (by rw [HGG.out];exact hg1),bw4⟩;rw [<- HR.out] at HP0;have HP:=Nm.hide HP0;clear HP0;clear ks ks1 ks2 kz1 rz1 hcp k4 ho4 bw4 ho2 f0 f1 f2 f3;go_wp2_with fail
     refine bodyPost_ret (v:=.tuple #[.agg #[.string x,.int .i64 ty,.int .i64 tt,.slice xa ds.length xc],.bool true]) ?_ rfl HP.out
     simp [results,Tryz.f41,go_sem,rk]
    |false=>
     rw [hsb] at hsm
     have HN:Hid (∀ i p,i<j+1->ps[i]? =some p->(decide (p.1.ty=ty)&&sameS p.1.own name)=false):=fun i p hi hp=>by
      rcases Nat.lt_or_ge i j with h1|h1
      ·exact HNO.out i p h1 hp
      ·obtain rfl:i=j:=by omega
       rw [HQ.out] at hp;obtain rfl:=Option.some.inj hp;simp [hsb]
     clear hsb;go_wp2_with (go_at_call 90;refine hsm.mono ?_;rintro e w1 ⟨rfl,b1⟩)
     go_roundw
     case rel=>exact⟨j+1,hlt,by go_num,hb.trans (b1.mono hgw),blk_below kz b1,blk_below ks b1,HN.out⟩
     case measure=>simp [intOf];omega
   ·have t1:(ty==t)=false:=by simp [hty]
    have HN:Hid (∀ i p,i<j+1->ps[i]? =some p->(decide (p.1.ty=t)&&sameS p.1.own name)=false):=fun i p hi hp=>by
     rcases Nat.lt_or_ge i j with h1|h1
     ·exact HNO.out i p h1 hp
     ·obtain rfl:i=j:=by omega
      rw [HQ.out] at hp;obtain rfl:=Option.some.inj hp;simp [hty]
    clear hty hsm;go_wp2;go_roundw
    case rel=>exact⟨j+1,hlt,by go_num,hb,kz,ks,HN.out⟩
    case measure=>simp [intOf];omega
  ·obtain rfl:j=ps.length:=by omega
   have i9:(ps.length:Int)<=(ps.length:Int):=by omega
   have HR:Hid (fndZ (ps.map (·.1)) name t=none):=fnd_miss HNO.out;have cz:=fun i=>blk_cell ks i
   have fz:=fun i=>blk_frozen ks i
   rw [<- HGG.out] at hb;obtain⟨k4,-,bw4⟩:=set_store (x:=⟨#[]⟩) (ty:=0) (tt:=0) ks (World.ownsRow_nil wr 0 9 1) (by simp [Value.ownBlock]) hb (by rw [HGG.out];exact Nat.le_succ _);have rk:=fun i=>blk_cell k4 i
   have HP0:=fsP_none bw4;rw [<- HR.out] at HP0;have HP:=Nm.hide HP0;clear HP0;clear ks k4 bw4;go_wp2_with fail
   refine bodyPost_ret (v:=.tuple #[.agg #[.string ⟨#[]⟩,.int .i64 0,.int .i64 0,.slice none 0 0],.bool false]) ?_ rfl HP.out;simp [results,Tryz.f41,go_sem,rk]
end Go.Proofs.YtcodajnebegdiaaGreat
namespace Go.Proofs.YtcodajnebegdiaaGreat
open Go.RowKit
set_option maxRecDepth 100000 in
set_option maxHeartbeats 800000 in
theorem specMakeName_any(v:Value)(ls:List ByteArray)(w:World)(h:Nm.SRow w v ls):
 Calls Tryz.prog 92 #[v] w fun e w'=>e=.returned (.tuple #[.string (makeS ls).1,.int .i64 (makeS ls).2])∧Below w.heap.size w w':=by
 have hjoin:=fun hq=>l01Join_any v ls w h hq
 obtain⟨a,cap,rfl,hcap,hmx,hnl,hc⟩:=h;unfold maxLen at hmx
 by_cases hm:127<ls.length
 ·have HM:Hid (makeS ls=(ByteArray.empty,3)):=make_many hm;have hm':(127:Int)<(ls.length:Int):=by omega
  clear hjoin;go_enter Tryz.func92,Tryz.ntmps92;go_wp2;go_ret2;rw [HM.out];exact⟨rfl,Below.refl _ _⟩
 ·have hm':(ls.length:Int)<=127:=by omega
  go_enter Tryz.func92,Tryz.ntmps92;go_wp2
  go_loop [4] (fun i=>∃ k:Nat,k<=ls.length∧i=.int .i64 k∧Hid ((ls.take k).any badB=false)) (fun i=>ls.length-(intOf i).toNat)
  case atStart=>exact⟨0,Nat.zero_le _,rfl,by show _=_;simp⟩
  case round=>
   obtain⟨k,hk,rfl,HG⟩:=hrel
   by_cases hlt:k<ls.length
   ·obtain⟨x,hx⟩:∃ x,ls[k]? =some x:=⟨_,List.getElem?_eq_getElem hlt⟩;obtain⟨b,off,rfl,hcell⟩:=hc (by intro h;rw [h] at hlt;simp at hlt);have hcx:=hcell k x hx
    by_cases hb:x.size<1∨63<x.size
    ·have HM:Hid (makeS ls=(ByteArray.empty,2)):=make_bad (by omega) (any_bad hx hb);clear hx hcell hc hjoin
     by_cases hb1:x.size<1
     ·have h1:decide ((x.size:Int)<1)=true:=by simp;omega
      clear hb;go_wp2;go_ret2;rw [HM.out];exact⟨rfl,Below.refl _ _⟩
     ·have h1:decide ((x.size:Int)<1)=false:=by simp;omega
      have h2:decide ((63:Int)<(x.size:Int))=true:=by simp;omega
      clear hb;go_wp2;go_ret2;rw [HM.out];exact⟨rfl,Below.refl _ _⟩
    ·have HN:Hid ((ls.take (k+1)).any badB=false):=any_step hx HG.out hb;have h1:decide ((x.size:Int)<1)=false:=by simp;omega
     have h2:decide ((63:Int)<(x.size:Int))=false:=by simp;omega
     clear hx hcell hc hjoin hb;go_wp2
     go_round
     case rel=>exact⟨k+1,by omega,by go_num,HN⟩
     case measure=>simp [intOf];omega
   ·have hkl:k=ls.length:=by omega
    subst hkl;rw [List.take_length] at HG;have hws:=wsum_good ls HG.out;have Hj:=hjoin (by omega);have hjl:=Nm.joinL_length ls;have hsize:(ByteArray.mk (Nm.joinL ls).toArray).size=1+Nm.wsum ls:=by rw [<- size_list];simp [hjl];omega
    generalize hr:ByteArray.mk (Nm.joinL ls).toArray=r at*;clear hjoin hc
    by_cases hl:255<1+Nm.wsum ls
    ·have HM:Hid (makeS ls=(ByteArray.empty,3)):=make_long (by omega) HG.out hl;have hd:decide ((255:Int)<(r.size:Int))=true:=by simp;omega
     clear hsize hr;go_wp2_with fail
     refine Hj.mono ?_;rintro e w2 ⟨rfl,hbel2⟩;go_wp2;go_ret2;rw [HM.out];exact⟨rfl,hbel2⟩
    ·have HM:Hid (makeS ls=(r,0)):=by show _=_;rw [<- hr];exact make_good (by omega) HG.out hl
     have hd:decide ((255:Int)<(r.size:Int))=false:=by simp;omega
     clear hsize hr;go_wp2_with fail
     refine Hj.mono ?_;rintro e w2 ⟨rfl,hbel2⟩;go_wp2;go_ret2;rw [HM.out];exact⟨rfl,hbel2⟩
end Go.Proofs.YtcodajnebegdiaaGreat
namespace Go.Proofs.YtcodajnebegdiaaGreat
open Go.RowKit
set_option maxRecDepth 100000 in
set_option maxHeartbeats 800000 in
theorem specReplaceTail_any(a b c:ByteArray)(w:World)(ha:a.size<=maxLen)(hb:b.size<=maxLen)(hc:c.size<=maxLen):
 Calls Tryz.prog 44 #[.string a,.string b,.string c] w fun e w'=>e=.returned (.tuple #[.string (replS a b c).1,.int .i64 (replS a b c).2])∧Below w.heap.size w w':=by
 have hsa:=l01Split_any a w ha;have hsb:=fun W=>l01Split_any b W hb
 have hsc:=fun W=>l01Split_any c W hc
 by_cases hbad:Nm.split a=none∨Nm.split b=none∨Nm.split c=none
 ·have HA:=Nm.hide (repl_bad hbad)
  have hg:((Nm.split a).isSome=false)∨((Nm.split a).isSome=true∧(Nm.split b).isSome=false)∨((Nm.split a).isSome=true∧(Nm.split b).isSome=true∧(Nm.split c).isSome=false):=by
   cases h1:Nm.split a<;>cases h2:Nm.split b<;>cases h3:Nm.split c<;>simp_all
  clear hbad;generalize Nm.split a=sa at*;generalize Nm.split b=sb at*;generalize Nm.split c=sc at*
  rcases hg with h1|⟨h1,h2⟩|⟨h1,h2,h3⟩
  all_goals
   go_enter Tryz.func44,Tryz.ntmps44;go_wp2_with fail
   refine hsa.mono ?_;rintro e w1 ⟨v,rfl,hown,hbel⟩;go_wp2_with fail
   refine(hsb _).mono ?_;rintro e w2 ⟨v2,rfl,hown2,hbel2⟩;go_wp2_with fail
   refine(hsc _).mono ?_;rintro e w3 ⟨v3,rfl,hown3,hbel3⟩;have hb4:=Nm.below_two (Nm.below_two hbel hbel2) hbel3;clear hown hown2 hown3;go_wp2;go_ret2;rw [HA.out];exact⟨rfl,hb4⟩
 ·obtain⟨xs,hqa⟩:∃ xs,Nm.split a=some xs:=Option.ne_none_iff_exists'.1 (fun h=>hbad (.inl h));obtain⟨ys,hqb⟩:∃ ys,Nm.split b=some ys:=Option.ne_none_iff_exists'.1 (fun h=>hbad (.inr (.inl h)));obtain⟨zs,hqc⟩:∃ zs,Nm.split c=some zs:=Option.ne_none_iff_exists'.1 (fun h=>hbad (.inr (.inr h)));have hza:=Nm.split_size hqa;have hzb:=Nm.split_size hqb;have hzc:=Nm.split_size hqc;have hla:=Nm.length_le_wsum xs;have hlb:=Nm.length_le_wsum ys;have hlc:=Nm.length_le_wsum zs;have hisu:=fun W=>specIsUnder_any a b W ha hb
  rw [isUnder_some hqa hqb] at hisu;have hzone:=repl_zone hqa hqb hqc;have hgood:=repl_good hqa hqb hqc;rw [hqa] at hsa;rw [hqb] at hsb;rw [hqc] at hsc;clear hbad hqa hqb hqc;obtain⟨i0,hi,hz0,hz1,hz2⟩:=info_parts Tryz.infoStr
  by_cases hno:¬(underB xs ys=true∧xs.length≠ys.length)
  ·have HA:=Nm.hide (hzone hno);clear hzone hgood
   cases hu:underB xs ys with
   |false=>
    rw [hu] at hisu;clear hno;go_enter Tryz.func44,Tryz.ntmps44;go_wp2_with fail
    refine hsa.mono ?_;rintro e w1 ⟨v,rfl,hown,hbel⟩;go_wp2_with fail
    refine(hsb _).mono ?_;rintro e w2 ⟨v2,rfl,hown2,hbel2⟩;go_wp2_with fail
    refine(hsc _).mono ?_;rintro e w3 ⟨v3,rfl,hown3,hbel3⟩;have hb4:=Nm.below_two (Nm.below_two hbel hbel2) hbel3;clear hown hown2 hown3;go_wp2_with fail
    refine(hisu _).mono ?_;rintro e w4 ⟨rfl,hbel4⟩;go_wp2;go_ret2;rw [HA.out]
    exact⟨rfl,Nm.below_two hb4 hbel4⟩
   |true=>
    rw [hu] at hisu
    have heq:((xs.length:Int)==(ys.length:Int))=true:=by
     have:xs.length=ys.length:=Classical.byContradiction (fun h=>hno ⟨hu,h⟩);simp [this]
    clear hno;go_enter Tryz.func44,Tryz.ntmps44;go_wp2_with fail
    refine hsa.mono ?_;rintro e w1 ⟨v,rfl,hown,hbel⟩;go_wp2_with fail
    refine(hsb _).mono ?_;rintro e w2 ⟨v2,rfl,hown2,hbel2⟩;go_wp2_with fail
    refine(hsc _).mono ?_;rintro e w3 ⟨v3,rfl,hown3,hbel3⟩;have hb4:=Nm.below_two (Nm.below_two hbel hbel2) hbel3;obtain⟨a1,cap1,rfl,hcap1,hmx1,hnl1,hc1⟩:=Nm.SRow.of_owns hown;obtain⟨a2,cap2,rfl,hcap2,hmx2,hnl2,hc2⟩:=Nm.SRow.of_owns hown2;simp only [Option.getD_some] at*;clear hown hown2 hown3 hc1 hc2 hnl1 hnl2;go_wp2_with fail
    refine(hisu _).mono ?_;rintro e w4 ⟨rfl,hbel4⟩;go_wp2;go_ret2;rw [HA.out];exact⟨rfl,Nm.below_two hb4 hbel4⟩
  ·have hyes:underB xs ys=true∧xs.length≠ys.length:=Classical.byContradiction hno;have HA:=Nm.hide (hgood hyes);have hu:=hyes.1
   have hlt:ys.length<xs.length:=by
    have h1:=hyes.1;have h2:=hyes.2;rw [underB] at h1;simp at h1;omega
   rw [hu] at hisu;have heq:((xs.length:Int)==(ys.length:Int))=false:=by rw [beq_eq_false_iff_ne];omega
   obtain⟨d,hdd⟩:∃ d,d=xs.length-ys.length:=⟨_,rfl⟩;rw [<- hdd] at HA;have hq:(xs.length:Int)-(ys.length:Int)=(d:Int):=by omega
   have hdl:d<=xs.length:=by omega
   have hwt:=Nm.wsum_take_le xs d;have hwa:=Nm.wsum_append (xs.take d) zs;have hmk:=fun V W h=>specMakeName_any V (xs.take d++zs) W h
   generalize makeS (xs.take d++zs)=M at*;clear hzone hgood hno hyes hu hdd;go_enter Tryz.func44,Tryz.ntmps44;go_wp2_with fail
   refine hsa.mono ?_;rintro e w1 ⟨v,rfl,hown,hbel⟩;go_wp2_with fail
   refine(hsb _).mono ?_;rintro e w2 ⟨v2,rfl,hown2,hbel2⟩;go_wp2_with fail
   refine(hsc _).mono ?_;rintro e w3 ⟨v3,rfl,hown3,hbel3⟩;have hb4:=Nm.below_two (Nm.below_two hbel hbel2) hbel3;have r1:=((Nm.SRow.of_owns hown).below hbel2).below hbel3;have r2:=(Nm.SRow.of_owns hown2).below hbel3;have r3:=Nm.SRow.of_owns hown3;simp only [Option.getD_some] at r1 r2 r3;have r1':=r1;have r3':=r3;obtain⟨a1,cap1,rfl,hcap1,hmx1,hnl1,hc1⟩:=r1;obtain⟨a2,cap2,rfl,hcap2,hmx2,hnl2,hc2⟩:=r2;obtain⟨a3,cap3,rfl,hcap3,hmx3,hnl3,hc3⟩:=r3;clear hown hown2 hown3 hnl1 hnl2 hnl3 hc1 hc2 hc3;go_wp2_with fail
   refine(hisu _).mono ?_;rintro e w4 ⟨rfl,hbel4⟩;have r1'':=r1'.below hbel4;have r3'':=r3'.below hbel4;obtain⟨_,_,e1,_,_,_,hc1⟩:=r1'';simp only [Value.slice.injEq] at e1;obtain⟨rfl,_,rfl⟩:=e1;obtain⟨_,_,e3,_,_,_,hc3⟩:=r3'';simp only [Value.slice.injEq] at e3;obtain⟨rfl,_,rfl⟩:=e3;have hb5:=Nm.below_two hb4 hbel4;clear r1' r3' hisu hbel hbel2 hbel3 hbel4 hb4;go_wp2
   go_loopw [14,15] (fun v i wr=>∃ k:Nat,k<=d∧i=.int .i64 k∧wr.ownsRow w4.heap.size 9 1 v (xs.take k).length ((xs.take k).map Value.string)∧Below w4.heap.size w4 wr)
    (fun _ i _=>d-(intOf i).toNat)
   case atStart=>exact⟨0,Nat.zero_le _,rfl,World.ownsRow_made w4 #[] 0 (Nat.le_refl _) (by decide) rfl,(Below.refl _ _).alloc (Nat.le_refl _) _⟩
   case round=>
    obtain⟨k,hk,rfl,hownk,hbelk⟩:=hrel;have hszk:=hbelk.size;have hlk:(xs.take k).length=k:=by simp;omega
    by_cases hkd:k<d
    ·obtain⟨x,hx⟩:∃ x,xs[k]? =some x:=⟨_,List.getElem?_eq_getElem (by omega)⟩;obtain⟨b1,off1,rfl,hcell⟩:=hc1 (by intro h;rw [h] at hlt;simp at hlt);have hcx:wr.cell? ⟨b1,off1+k,none⟩=some (.string x):=(hbelk.cell (World.block_lt_of_cell? w4 _ (hcell k x hx))).trans (hcell k x hx);have HT:=Nm.hide (Nm.take_step hx);have HLK:=Nm.hide hlk;clear hx hcell hc1 hc3 hlk hmk;go_wp2_with (at_builtin;refine wpList_append_own _ rfl (.tmp 63) (.tmp 68) 52 rfl w4.heap.size 9 i0 (.string ByteArray.empty) 1 16 Tryz.underlying52 hi hz0 hz1 hz2 rfl (by decide) _ _ _ rfl (hownk.alloc _) ⟨wr.heap.size,0,none⟩ 1 1 [.string x] rfl rfl (cell_one_new _ _ _) (Nm.one_cell _ rfl) (by have:=HLK.out;unfold maxLen;omega) (by have:=HLK.out;omega) (by simp;omega) ?_;intro v' w5 hown' hgrow hnl';clear hnl';have R:=own_step hszk hownk hbelk _ hown' hgrow;clear hown' hgrow)
     go_roundw
     case rel=>exact⟨k+1,by omega,by go_num,by rw [HT.out];exact R.1,R.2⟩
     case measure=>simp [intOf];omega
    ·have hke:k=d:=by omega
     subst hke;clear hc1;go_wp2
     go_loopw [14,16] (fun v i wi=>∃ j:Nat,j<=zs.length∧i=.int .i64 j∧wi.ownsRow w4.heap.size 9 1 v (xs.take k++zs.take j).length ((xs.take k++zs.take j).map Value.string)∧Below w4.heap.size w4 wi)
      (fun _ i _=>zs.length-(intOf i).toNat)
     case atStart=>exact⟨0,Nat.zero_le _,rfl,by simpa using hownk,hbelk⟩
     case round=>
      obtain⟨j,hj,rfl,hownj,hbelj⟩:=hrel;have hszj:=hbelj.size;have hlj:(xs.take k++zs.take j).length=k+j:=by simp;omega
      clear hownk hbelk hszk
      by_cases hjz:j<zs.length
      ·obtain⟨x,hx⟩:∃ x,zs[j]? =some x:=⟨_,List.getElem?_eq_getElem hjz⟩;obtain⟨b3,off3,rfl,hcell⟩:=hc3 (by intro h;rw [h] at hjz;simp at hjz);have hcx:wr.cell? ⟨b3,off3+j,none⟩=some (.string x):=(hbelj.cell (World.block_lt_of_cell? w4 _ (hcell j x hx))).trans (hcell j x hx);have HT:=Nm.hide (Nm.take_step hx);have HLK:=Nm.hide hlj;clear hx hcell hc3 hlj hmk hlk;go_wp2_with (at_builtin;refine wpList_append_own _ rfl (.tmp 76) (.tmp 81) 52 rfl w4.heap.size 9 i0 (.string ByteArray.empty) 1 16 Tryz.underlying52 hi hz0 hz1 hz2 rfl (by decide) _ _ _ rfl (hownj.alloc _) ⟨wr.heap.size,0,none⟩ 1 1 [.string x] rfl rfl (cell_one_new _ _ _) (Nm.one_cell _ rfl) (by have:=HLK.out;unfold maxLen;omega) (by have:=HLK.out;omega) (by simp;omega) ?_;intro v' w5 hown' hgrow hnl';clear hnl';have R:=own_step hszj hownj hbelj _ hown' hgrow;clear hown' hgrow)
       go_roundw
       case rel=>exact⟨j+1,by omega,by go_num,by rw [HT.out,<- List.append_assoc];exact R.1,R.2⟩
       case measure=>simp [intOf];omega
      ·have hje:j=zs.length:=by omega
       subst hje;rw [List.take_length] at hownj;have hr:=Nm.SRow.of_owns hownj;clear hownj hc3 hlj hlk;go_wp2_with fail
       refine(hmk _ _ hr).mono ?_;rintro e w6 ⟨rfl,hbel6⟩;go_wp2;go_ret2;rw [HA.out];exact⟨rfl,Nm.below_two hb5 (Nm.below_two hbelj hbel6)⟩
end Go.Proofs.YtcodajnebegdiaaGreat
