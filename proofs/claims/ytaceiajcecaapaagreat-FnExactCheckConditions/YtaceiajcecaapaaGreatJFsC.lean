import Derived.Test.YtaceiajcecaapaaGreatJFsM
import Derived.Test.YtaceiajcecaapaaGreatJZnM
import Derived.Test.YtaceiajcecaapaaGreatJZrM
import Derived.Test.YtaceiajcecaapaaGreatJCRow
import Derived.Test.YtaceiajcecaapaaGreatJFoldN
namespace Go.Proofs.YtaceiajcecaapaaGreat
open Go.RowKit
set_option linter.unusedVariables false
structure Csp (w0 w:World) (g:Nat) (x:ByteArray) (ty tt:Int) (v u:Value) (n:Nat) (xs:List ByteArray):Prop where
 ob:Blk w (g+1+1) #[.string x,.int .i64 ty,.int .i64 tt,u] 65
 mb:Blk w g #[.string x,.int .i64 ty,.int .i64 tt,v] 65
 zb:Blk w (g+1) #[.string ⟨#[]⟩,.int .i64 0,.int .i64 0,.slice none 0 0] 65
 own:w.ownsRow g 9 1 u n (xs.map Value.string)
 be:Below g w0 w
theorem Csp.below{w0 w w':World}{g:Nat}{x:ByteArray}{ty tt:Int}{v u:Value}{n:Nat}{xs:List ByteArray}(c:Csp w0 w g x ty tt v u n xs)(hb:Below w.heap.size w w')(hg:g<=w.heap.size):Csp w0 w' g x ty tt v u n xs:=
 ⟨blk_below c.ob hb,blk_below c.mb hb,blk_below c.zb hb,own_below c.own hb,c.be.trans (hb.mono hg)⟩
theorem Csp.grow{w0 w w':World}{g:Nat}{x:ByteArray}{ty tt:Int}{v u:Value}{n:Nat}{xs:List ByteArray}(c:Csp w0 w g x ty tt v u n xs)(hg:w.grownBy w' u.ownBlock)(hw:g<=w.heap.size):
 Blk w' (g+1+1) #[.string x,.int .i64 ty,.int .i64 tt,u] 65∧Blk w' g #[.string x,.int .i64 ty,.int .i64 tt,v] 65∧Blk w' (g+1) #[.string ⟨#[]⟩,.int .i64 0,.int .i64 0,.slice none 0 0] 65∧Below g w0 w':=
 ⟨blk_grown c.ob hg (own_nb c.own c.ob (by decide)),blk_grown c.mb hg (own_nb c.own c.mb (by decide)),blk_grown c.zb hg (own_nb c.own c.zb (by decide)),c.be.grown hg hw (fun k hk=>(c.own.lt k hk).1)⟩
set_option maxRecDepth 100000 in
set_option maxHeartbeats 1600000 in
theorem l06CopySet_any(s:Sz)(v:Value)(w:World)(h:Nm.SRow w v s.da)(hl:s.da.length<=100000000):
 Calls Tryz.prog 101 #[.agg #[.string s.own,.int .i64 s.ty,.int .i64 s.tt,v]] w fun e w'=>∃ u,e=.returned (.agg #[.string s.own,.int .i64 s.ty,.int .i64 s.tt,u])∧w'.ownsRow w.heap.size 9 1 u s.da.length (s.da.map Value.string)∧Below w.heap.size w w':=by
 obtain⟨j0,hj,k0,k1,k2⟩:=info_parts Tryz.infoStr;obtain⟨x,ty,tt,ds⟩:=s;simp only at h hl ⊢
 obtain⟨va,vc,rfl,-,-,-,-⟩:=id h;have hB0:=(Below.refl w.heap.size w).alloc (Nat.le_refl _) (.cells #[.string x,.int .i64 ty,.int .i64 tt,.slice va ds.length vc] 65);have hB1:=hB0.alloc hB0.size (.cells #[.string ⟨#[]⟩,.int .i64 0,.int .i64 0,.slice none 0 0] 65);have hB2:=hB1.alloc hB1.size (.cells #[.string x,.int .i64 ty,.int .i64 tt,.slice none 0 0] 65);have kM0:=blk_alloc (blk_new w #[.string x,.int .i64 ty,.int .i64 tt,.slice va ds.length vc] 65) (.cells #[.string ⟨#[]⟩,.int .i64 0,.int .i64 0,.slice none 0 0] 65);have kM:=blk_alloc kM0 (.cells #[.string x,.int .i64 ty,.int .i64 tt,.slice none 0 0] 65);have kZ:=blk_alloc (blk_new (w.alloc (.cells #[.string x,.int .i64 ty,.int .i64 tt,.slice va ds.length vc] 65)) #[.string ⟨#[]⟩,.int .i64 0,.int .i64 0,.slice none 0 0] 65) (.cells #[.string x,.int .i64 ty,.int .i64 tt,.slice none 0 0] 65);have kO:=blk_new ((w.alloc (.cells #[.string x,.int .i64 ty,.int .i64 tt,.slice va ds.length vc] 65)).alloc (.cells #[.string ⟨#[]⟩,.int .i64 0,.int .i64 0,.slice none 0 0] 65)) #[.string x,.int .i64 ty,.int .i64 tt,.slice none 0 0] 65;rw [World.size_alloc] at kZ;rw [World.size_alloc,World.size_alloc] at kO;have S3:Csp w _ w.heap.size x ty tt (.slice va ds.length vc) (.slice none 0 0) 0 []:=⟨kO,kM,kZ,World.ownsRow_nil _ _ _ _,hB2⟩;have hd:=fun W (hW:Below w.heap.size w W)=>h.below hW
 have rr:=fun i=>blk_cell kM0 i
 clear h kM kZ kO hB0 hB1 hB2;go_enter Tryz.func101,Tryz.ntmps101;go_wp2_with fail
 clear rr kM0;generalize hgg:w.heap.size=g at*;have HGG:=Nm.hide hgg;clear hgg
 go_loopw [4] (fun i wr=>∃ (k:Nat) (qx:Option Addr) (qy:Nat),k<=ds.length∧i=.int .i64 k∧g<=wr.heap.size∧Csp w wr g x ty tt (.slice va ds.length vc) (.slice qx k qy) k (ds.take k)) (fun i _=>ds.length-(intOf i).toNat)
 case atStart=>exact⟨0,none,0,Nat.zero_le _,rfl,by have:=HGG.out;simp;omega,S3⟩
 case round=>
  clear S3;obtain⟨k,qx,qy,hk,rfl,hgw,Sk⟩:=hrel;have ccM:=fun i=>blk_cell Sk.mb i
  have ccO:=fun i=>blk_cell Sk.ob i
  by_cases hlt:k<ds.length
  ·obtain⟨y,hyk⟩:∃ y,ds[k]? =some y:=⟨_,List.getElem?_eq_getElem hlt⟩;obtain⟨a9,c9,e9,_,_,_,hc9⟩:=hd wr Sk.be;simp only [Value.slice.injEq] at e9;obtain⟨rfl,_,rfl⟩:=e9;obtain⟨b,off,rfl,hcell⟩:=hc9 (by intro e;rw [e] at hlt;simp at hlt);have d0:=hcell k y hyk;have n1:(0:Int)<=(k:Int):=by omega
   have n2:(k:Int)<(ds.length:Int):=by omega
   have e5:ds.take (k+1)=ds.take k++[y]:=by
    obtain⟨hi,e⟩:=List.getElem?_eq_some_iff.1 hyk;rw [List.take_succ_eq_append_getElem hi,e]
   have HE5:=Nm.hide e5;have HYK:=Nm.hide hyk;clear e5 hc9 hcell hyk;go_wp2;refine wp_region_last (fun W=>Blk W (g+1+1) #[.string x,.int .i64 ty,.int .i64 tt,.slice qx k qy] 65∧Blk W g #[.string x,.int .i64 ty,.int .i64 tt,.slice (some ⟨b,off,none⟩) ds.length vc] 65∧W.cell? ⟨b,off+k,none⟩=some (.string y)) 10 (by kernel_rfl) ⟨Sk.ob,Sk.mb,d0⟩ (fun hHeld=>?_);refine tkL (i:=0) (v:=?_) rfl ?_ ?_;rotate_left 1
   ·(rintro W ⟨s1,s2,s3⟩;have ss1:=(fun i=>blk_cell s1 i);have ss2:=(fun i=>blk_cell s2 i);go_simp;first|done|rfl)
   refine tkL (i:=1) (v:=?_) rfl ?_ ?_;rotate_left 1
   ·(rintro W ⟨s1,s2,s3⟩;have ss1:=(fun i=>blk_cell s1 i);have ss2:=(fun i=>blk_cell s2 i);go_simp;first|done|rfl)
   refine tkL (i:=2) (v:=?_) rfl ?_ ?_;rotate_left 1
   ·(rintro W ⟨s1,s2,s3⟩;have ss1:=(fun i=>blk_cell s1 i);have ss2:=(fun i=>blk_cell s2 i);go_simp;first|done|rfl)
   refine tkL (i:=3) (v:=?_) rfl ?_ ?_;rotate_left 1
   ·(rintro W ⟨s1,s2,s3⟩;have ss1:=(fun i=>blk_cell s1 i);have ss2:=(fun i=>blk_cell s2 i);go_simp;first|done|rfl)
   refine tkL (i:=4) (v:=?_) rfl ?_ ?_;rotate_left 1
   ·(rintro W ⟨s1,s2,s3⟩;have ss1:=(fun i=>blk_cell s1 i);have ss2:=(fun i=>blk_cell s2 i);go_simp;first|done|rfl)
   refine tkL (i:=5) (v:=?_) rfl ?_ ?_;rotate_left 1
   ·(rintro W ⟨s1,s2,s3⟩;have ss1:=(fun i=>blk_cell s1 i);have ss2:=(fun i=>blk_cell s2 i);go_simp;first|done|rfl)
   refine tkL (i:=6) (v:=?_) rfl ?_ ?_;rotate_left 1
   ·(rintro W ⟨s1,s2,s3⟩;have ss1:=(fun i=>blk_cell s1 i);have ss2:=(fun i=>blk_cell s2 i);go_simp;first|done|rfl)
   have hbA:=((Below.refl wr.heap.size wr).alloc (Nat.le_refl _) (.cells #[.string y] 9)).drew;have SA:=Sk.below hbA hgw;have e0:(wr.alloc (.cells #[.string y] 9)).drew.cell? ⟨b,off+k,none⟩=some (.string y):=(hbA.cell (World.block_lt_of_cell? wr _ d0)).trans d0;have hoA:=SA.own;refine wpAnyL_one (i:=7) (by kernel_rfl) rfl (fun K hK=>?_);go_simp;refine hK.out _ _ ⟨SA.ob,SA.mb,e0⟩ (fun hH2=>?_);clear hK K;refine wpAnyL_one (i:=8) (by kernel_rfl) rfl (fun K hK=>?_);refine step_append_own rfl (.tmp 20) (.tmp 26) 56 rfl g 9 j0 (.string ByteArray.empty) 1 16 Tryz.underlying56 hj k0 k1 k2 rfl (by decide) (.slice qx k qy) k ((ds.take k).map Value.string) (by rfl) hoA ⟨wr.heap.size,0,none⟩ 1 1 [.string y] (by rfl) rfl (cell_newV _ #[.string y] _) (by intro u hu;simp at hu;subst hu;rfl) (by unfold maxLen;omega) (by omega) (by simp;omega) ?_;intro va' wa hown9 hgrow9 hnl9;clear hnl9;obtain⟨xb,yb,hvb⟩:=own_sl hown9;subst hvb;obtain⟨ob9,mb9,zb9,be9⟩:=SA.grow hgrow9 (by simp;omega);obtain⟨a8,c8,e8,_,_,_,hc8⟩:=hd wa be9;simp only [Value.slice.injEq] at e8;obtain⟨rfl,_,rfl⟩:=e8;obtain⟨b8,off8,e7,hcell8⟩:=hc8 (by intro e;rw [e] at hlt;simp at hlt);simp only [Option.some.injEq,Addr.mk.injEq,and_true] at e7;obtain⟨rfl,rfl⟩:=e7;have f0:=hcell8 k y HYK.out;refine hK.out _ _ ⟨ob9,mb9,f0⟩ (fun hH3=>?_);clear hK K;refine tkL (i:=9) (v:=?_) rfl ?_ ?_;rotate_left 1
   ·(rintro W ⟨s1,s2,s3⟩;have ss1:=(fun i=>blk_cell s1 i);have ss2:=(fun i=>blk_cell s2 i);go_simp;first|done|rfl)
   have g9:=fun i=>blk_cell ob9 i
   have h9:=fun i=>blk_frozen ob9 i
   refine wpAnyL_end (by kernel_rfl) rfl (by kernel_rfl) (fun K hK=>?_);go_simp;refine hK.out _ _ ?_;clear hK K
   have hrow9:wa.ownsRow g 9 1 (.slice xb (k+1) yb) (k+1) ((ds.take (k+1)).map Value.string):=by
    rw [HE5.out,List.map_append];exact hown9
   have S9:Csp w (wa.setCell ⟨g+1+1,3,none⟩ (.slice xb (k+1) yb)) g x ty tt (.slice (some ⟨b,off,none⟩) ds.length vc) (.slice xb (k+1) yb) (k+1) (ds.take (k+1)):=
    ⟨blk_set ob9 3 _,blk_far mb9 (by omega),blk_far zb9 (by omega),own_far hrow9 (own_nb hrow9 ob9 (by decide)),be9.setCell (Nat.le_add_right g 2) _⟩
   have HS9:=Nm.hide S9;have HK9:Hid (k+1<=ds.length):=hlt
   have HG9:Hid (g<=(wa.setCell ⟨g+1+1,3,none⟩ (.slice xb (k+1) yb)).heap.size):=by
    show _<=_
    have h1:=hgrow9.size;simp at h1 ⊢;omega
   clear S9 hrow9 ob9 mb9 zb9 be9 SA Sk hown9 hgrow9 hoA e0 hbA f0 d0 g9 h9 hH3 hH2 hHeld ccM ccO hcell8 hc8;go_wp2;go_roundw
   case rel=>exact⟨k+1,xb,yb,HK9.out,by go_num,HG9.out,HS9.out⟩
   case measure=>simp [intOf];omega
  ·obtain rfl:k=ds.length:=by omega
   rw [List.take_length] at Sk;have i9:(ds.length:Int)<=(ds.length:Int):=by omega
   have cz:=fun i=>blk_cell Sk.zb i
   have fz:=fun i=>blk_frozen Sk.zb i
   have k4:=blk_set (blk_set (blk_set (blk_set Sk.zb 0 (.string x)) 1 (.int .i64 ty)) 2 (.int .i64 tt)) 3 (.slice qx ds.length qy);simp only [List.setIfInBounds_toArray,List.set_cons_zero,List.set_cons_succ] at k4;have hne:=own_nb Sk.own Sk.zb (by decide);have ho4:=own_far (y:=.slice qx ds.length qy) (i:=3) (g:=g+1) (own_far (y:=.int .i64 tt) (i:=2) (g:=g+1) (own_far (y:=.int .i64 ty) (i:=1) (g:=g+1) (own_far (y:=.string x) (i:=0) (g:=g+1) Sk.own hne) hne) hne) hne;have hlb:g<=g+1:=Nat.le_succ g;have bw4:=(((Sk.be.setCell (p:=⟨g+1,0,none⟩) hlb (.string x)).setCell (p:=⟨g+1,1,none⟩) hlb (.int .i64 ty)).setCell (p:=⟨g+1,2,none⟩) hlb (.int .i64 tt)).setCell (p:=⟨g+1,3,none⟩) hlb (.slice qx ds.length qy);have rk:=fun i=>blk_cell k4 i
   clear hd k4 hne Sk;go_wp2_with fail
   refine bodyPost_ret (v:=.agg #[.string x,.int .i64 ty,.int .i64 tt,.slice qx ds.length qy]) ?_ rfl ⟨_,rfl,by rw [HGG.out];exact ho4,by rw [HGG.out];exact bw4⟩;simp [results,Tryz.f101,go_sem,rk]
theorem fnd_hit{ps:List Zp}{name:ByteArray}{t:Int}{j:Nat}{q:Zp}(hq:ps[j]? =some q)(hb:∀ i p,i<j->ps[i]? =some p->(decide (p.1.ty=t)&&sameS p.1.own name)=false)(h:(decide (q.1.ty=t)&&sameS q.1.own name)=true):fndZ (ps.map (·.1)) name t=some q.1:=by
 induction ps generalizing j with
 |nil=>simp at hq
 |cons p ps ih=>
  rw [fndZ,List.map_cons,List.find?_cons]
  cases j with
  |zero=>
   simp only [List.getElem?_cons_zero,Option.some.injEq] at hq;subst hq
   simp only [h]
  |succ j=>
   have h0:=hb 0 p (by omega) rfl;simp only [h0];exact ih (by simpa using hq) (fun i p' hi hp'=>hb (i+1) p' (by omega) (by simpa using hp'))
theorem fnd_miss{ps:List Zp}{name:ByteArray}{t:Int}(hb:∀ i p,i<ps.length->ps[i]? =some p->(decide (p.1.ty=t)&&sameS p.1.own name)=false):fndZ (ps.map (·.1)) name t=none:=by
 rw [fndZ,List.find?_eq_none];intro z hz;obtain⟨p,hp,rfl⟩:=List.mem_map.1 hz;obtain⟨i,hi⟩:=List.getElem?_of_mem hp;rw [hb i p (List.getElem?_eq_some_iff.1 hi).1 hi];simp
set_option maxRecDepth 100000 in
set_option maxHeartbeats 1600000 in
theorem l06Find_any(o name:ByteArray)(t:Int)(v:Value)(ps:List Zp)(w:World)(h:ZRow w v ps)(hl:ps.length<=1048576)(hf:∀ p∈ps,p.1.own.size<=1048576∧p.1.da.length<=1048576)(hn:name.size<=maxLen):
 Calls Tryz.prog 55 #[.agg #[.string o,v],.string name,.int .i64 t] w (FsP (fndZ (ps.map (·.1)) name t) w):=by
 obtain⟨va,vc,rfl⟩:∃ va vc,v=.slice va ps.length vc:=by obtain⟨⟨_,a,c,e,_⟩,_⟩:=h;exact⟨a,c,e⟩
 have b0:=(Below.refl w.heap.size w).alloc (Nat.le_refl _) (.cells #[.string o,.slice va ps.length vc] 32);have b1:=b0.alloc b0.size (.cells #[.string ⟨#[]⟩,.int .i64 0,.int .i64 0,.slice none 0 0] 65);have k0:=blk_alloc (blk_new w #[.string o,.slice va ps.length vc] 32) (.cells #[.string ⟨#[]⟩,.int .i64 0,.int .i64 0,.slice none 0 0] 65);have kS:=blk_new (w.alloc (.cells #[.string o,.slice va ps.length vc] 32)) #[.string ⟨#[]⟩,.int .i64 0,.int .i64 0,.slice none 0 0] 65;rw [World.size_alloc] at kS;have HZ:=Nm.hide (fun W (hW:Below w.heap.size w W)=>h.below hW);have HF:=Nm.hide hf;have HG:Hid (∀ W,Below w.heap.size w W->w.heap.size<=W.heap.size):=fun W hW=>hW.size
 clear h hf b0;go_enter Tryz.func55,Tryz.ntmps55;go_wp2_with fail
 generalize hgg:w.heap.size=g at*;have HGG:=Nm.hide hgg;clear hgg
 go_loopw [8] (fun i wr=>∃ (j:Nat),j<=ps.length∧i=.int .i64 j∧Below g w wr∧Blk wr g #[.string o,.slice va ps.length vc] 32∧Blk wr (g+1) #[.string ⟨#[]⟩,.int .i64 0,.int .i64 0,.slice none 0 0] 65∧∀ i p,i<j->ps[i]? =some p->(decide (p.1.ty=t)&&sameS p.1.own name)=false) (fun i _=>ps.length-(intOf i).toNat)
 case atStart=>exact⟨0,Nat.zero_le _,rfl,b1,k0,kS,fun i p hi=>by omega⟩
 case round=>
  clear b1 k0 kS;obtain⟨j,hj,rfl,hb,kz,ks,hno⟩:=hrel;have HNO:=Nm.hide hno;have hgw:=HG.out _ hb;have rz:=fun i=>blk_cell kz i
  clear hno
  by_cases hlt:j<ps.length
  ·obtain⟨q,hq⟩:∃ q,ps[j]? =some q:=⟨_,List.getElem?_eq_getElem hlt⟩;have hzr:=HZ.out _ hb;obtain⟨⟨_,a9,c9,e9,_,_,hc9⟩,hd9⟩:=hzr;simp only [Value.slice.injEq] at e9;obtain⟨rfl,_,rfl⟩:=e9;obtain⟨b,off,rfl,hcell⟩:=hc9 (by omega);obtain⟨d0,d1,d2,d3⟩:=zp_cells hcell hq;have hfq:=HF.out q (List.mem_of_getElem? hq);have hsr:=hd9 q (List.mem_of_getElem? hq);have n1:(0:Int)<=(j:Int):=by omega
   have n2:(j:Int)<(ps.length:Int):=by omega
   have hsm:=specSameName_any q.1.own name wr (by unfold maxLen;omega) hn;have HQ:=Nm.hide hq;have HSR:=Nm.hide hsr;clear hc9 hd9 hcell hq hsr;obtain⟨⟨x,ty,tt,ds⟩,u⟩:=q;simp only at d0 d1 d2 d3 hsm hfq
   obtain⟨ua,uc,hu⟩:∃ ua uc,u=.slice ua ds.length uc:=by obtain⟨a,c,e,_⟩:=HSR.out;exact⟨a,c,e⟩
   subst hu
   by_cases hty:ty=t
   ·subst hty;have t1:(ty==ty)=true:=by simp
    cases hsb:sameS x name with
    |true=>
     rw [hsb] at hsm;have HR:Hid (fndZ (ps.map (·.1)) name ty=some ⟨x,ty,tt,ds⟩):=fnd_hit HQ.out HNO.out (by simp [hsb]);clear hsb;go_wp2_with fail
     refine hsm.mono ?_;rintro e w1 ⟨rfl,b1⟩;have kz1:=blk_below kz b1;have ks1:=blk_below ks b1;have bw1:=hb.trans (b1.mono hgw);have rz1:=fun i=>blk_cell kz1 i
     have up:=fun {O:Nat} {z:Value} (hz:wr.cell? ⟨b,O,none⟩=some z)=>(b1.cell (World.block_lt_of_cell? wr _ hz)).trans hz
     have f0:=up d0;have f1:=up d1;have f2:=up d2;have f3:=up d3;have hcp:=l06CopySet_any ⟨x,ty,tt,ds⟩ (.slice ua ds.length uc) w1 (HSR.out.below b1) (by have:=hfq.2;simp only;omega);simp only at hcp
     clear rz d0 d1 d2 d3 hsm up kz;go_wp2_with fail
     refine hcp.mono ?_;rintro e w2 ⟨u2,rfl,ho2,b2⟩;obtain⟨xa,xc,rfl⟩:=own_sl ho2;have ks2:=blk_below ks1 b2;have cz:=fun i=>blk_cell ks2 i
     have fz:=fun i=>blk_frozen ks2 i
     have hg1:=HG.out _ bw1;have bw2:=bw1.trans (b2.mono hg1);rw [<- HGG.out] at bw2;obtain⟨k4,ho4,bw4⟩:=set_store (x:=x) (ty:=ty) (tt:=tt) ks2 ho2 (fun e=>by have h1:=(ho2.lt _ e).1;have h2:=blk_lt ks1;omega) bw2 (by rw [HGG.out];exact Nat.le_succ _);have rk:=fun i=>blk_cell k4 i
     have HP0:FsP (some ⟨x,ty,tt,ds⟩) w (.returned (.tuple #[.agg #[.string x,.int .i64 ty,.int .i64 tt,.slice xa ds.length xc],.bool true])) _:=⟨_,rfl,own_base ho4 (by rw [HGG.out];exact hg1),bw4⟩;rw [<- HR.out] at HP0;have HP:=Nm.hide HP0;clear HP0;clear ks ks1 ks2 kz1 rz1 hcp k4 ho4 bw4 ho2 f0 f1 f2 f3;go_wp2_with fail
     refine bodyPost_ret (v:=.tuple #[.agg #[.string x,.int .i64 ty,.int .i64 tt,.slice xa ds.length xc],.bool true]) ?_ rfl HP.out
     simp [results,Tryz.f55,go_sem,rk]
    |false=>
     rw [hsb] at hsm
     have HN:Hid (∀ i p,i<j+1->ps[i]? =some p->(decide (p.1.ty=ty)&&sameS p.1.own name)=false):=fun i p hi hp=>by
      rcases Nat.lt_or_ge i j with h1|h1
      ·exact HNO.out i p h1 hp
      ·obtain rfl:i=j:=by omega
       rw [HQ.out] at hp;obtain rfl:=Option.some.inj hp;simp [hsb]
     clear hsb;go_wp2_with (go_at_call 60;refine hsm.mono ?_;rintro e w1 ⟨rfl,b1⟩)
     go_roundw
     case rel=>exact⟨j+1,hlt,by go_num,hb.trans (b1.mono hgw),blk_below kz b1,blk_below ks b1,HN.out⟩
     case measure=>simp [intOf];omega
   ·have t1:(ty==t)=false:=by simp [hty]
    have HN:Hid (∀ i p,i<j+1->ps[i]? =some p->(decide (p.1.ty=t)&&sameS p.1.own name)=false):=fun i p hi hp=>by
     rcases Nat.lt_or_ge i j with h1|h1
     ·exact HNO.out i p h1 hp
     ·obtain rfl:i=j:=by omega
      rw [HQ.out] at hp;obtain rfl:=Option.some.inj hp;simp [hty]
    clear hty hsm;go_wp2;go_roundw
    case rel=>exact⟨j+1,hlt,by go_num,hb,kz,ks,HN.out⟩
    case measure=>simp [intOf];omega
  ·obtain rfl:j=ps.length:=by omega
   have i9:(ps.length:Int)<=(ps.length:Int):=by omega
   have HR:Hid (fndZ (ps.map (·.1)) name t=none):=fnd_miss HNO.out;have cz:=fun i=>blk_cell ks i
   have fz:=fun i=>blk_frozen ks i
   rw [<- HGG.out] at hb;obtain⟨k4,-,bw4⟩:=set_store (x:=⟨#[]⟩) (ty:=0) (tt:=0) ks (World.ownsRow_nil wr 0 9 1) (by simp [Value.ownBlock]) hb (by rw [HGG.out];exact Nat.le_succ _);have rk:=fun i=>blk_cell k4 i
   have HP0:=fsP_none bw4;rw [<- HR.out] at HP0;have HP:=Nm.hide HP0;clear HP0;clear ks k4 bw4;go_wp2_with fail
   refine bodyPost_ret (v:=.tuple #[.agg #[.string ⟨#[]⟩,.int .i64 0,.int .i64 0,.slice none 0 0],.bool false]) ?_ rfl HP.out;simp [results,Tryz.f55,go_sem,rk]
end Go.Proofs.YtaceiajcecaapaaGreat
