import Derived.Test.YtfmolgdfjklmpaaGreatJTrD
import Derived.Test.YtfmolgdfjklmpaaGreatFoldD
import Derived.Test.YtfmolgdfjklmpaaGreatJMath
import Derived.Test.YtfmolgdfjklmpaaGreatJZrM
import Derived.Test.YtfmolgdfjklmpaaGreatJSCheck
import Derived.RangeFuncBox
import Derived.Maps.AppendAt
import Derived.Test.YtfmolgdfjklmpaaGreatJTrM
namespace Go.Proofs.YtfmolgdfjklmpaaGreat
open Go.RowKit
set_option linter.unusedVariables false
theorem setAll_outs{b:Nat}:∀ (vs:List Value) (i:Nat) (w:World),Outs [b] w (setAll w b i vs):=by
 intro vs
 induction vs with
 |nil=>intro i w;exact⟨rfl,rfl,rfl,Nat.le_refl _,fun _ _ _=>rfl⟩
 |cons v vs ih=>
  intro i w;have h1:Outs [b] w (w.setCell ⟨b,i,none⟩ v):=⟨rfl,rfl,rfl,by simp,fun k _ hk=>heap_setCell_other w ⟨b,i,none⟩ k _ (by simpa using hk)⟩;exact h1.trans (ih (i+1) _) (fun k hk=>.inl hk)
theorem lay_back{W:World}{b:Nat}{x0 x1 x2 x3:Value}{ok:Bool}{R:Ending->World->Prop}{a:Act}(h:Blk W b #[x0,x1,x2,x3] 159)
 (h2:a.tmps[8]? =some (.pointer (some ⟨b,0,none⟩))) (h3:a.tmps[9]? =some (.bool ok)) (hd:a.defers=[])
 (hR:R (.returned (.tuple #[.agg #[x0,x1,x2,x3],.bool ok])) W):bodyPost Tryz.prog Tryz.f110 R .ret a W:=by
 refine bodyPost_ret ?_ hd hR;have r:=fun i=>blk_cell h i
 simp [results,Tryz.results110,go_sem,Result.andThen,r,h2,h3]
theorem gen_worldT{Pr G:World->Prop}{W:World}(h:Pr W)(k:∀ W,Pr W->G W):G W:=k W h
def LayG(own:ByteArray)(lv:Value)(lab:List ByteArray)(ty tt:Int)(at_:Nat)(fd da:ByteArray)(os os':List GOw)(ob sb:Nat)(isNew:Bool):Prop:=
 ∃ (o1:GOw) (os1:List GOw) (s2:GSe) (ss2:List GSe) (rv2 rv3:Value),GotO own lv lab os o1 os1∧GotS ty tt at_ o1.ss s2 ss2∧ob=o1.blk∧sb=s2.blk∧isNew= !isIn (dCmp fd) s2.da∧
   os'=os1.set (posOf (oCmp lab) os) {o1 with rv:=rv2,ss:=ss2.set (posOf (sCmp ty) o1.ss) {s2 with rv:=rv3,da:=putF (dCmp fd) (fd,da) s2.da}}
theorem GotO.at{own:ByteArray}{lv:Value}{lab:List ByteArray}{l l':List GOw}{o:GOw}(h:GotO own lv lab l o l')(hp:posOf (oCmp lab) l<=l.length):l'[posOf (oCmp lab) l]? =some o:=by
 rcases h with⟨_,rfl,h1,_⟩|⟨_,rfl,_⟩
 ·exact h1
 ·have hl:(l.take (posOf (oCmp lab) l)).length=posOf (oCmp lab) l:=by rw [List.length_take];omega
  rw [insAt,List.append_assoc,List.getElem?_append_right (by omega),hl];simp
theorem GotS.at{ty tt:Int}{at_:Nat}{l l':List GSe}{s:GSe}(h:GotS ty tt at_ l s l')(hp:posOf (sCmp ty) l<=l.length):l'[posOf (sCmp ty) l]? =some s:=by
 rcases h with⟨_,rfl,h1,_⟩|⟨_,rfl,_⟩
 ·exact h1
 ·have hl:(l.take (posOf (sCmp ty) l)).length=posOf (sCmp ty) l:=by rw [List.length_take];omega
  rw [insAt,List.append_assoc,List.getElem?_append_right (by omega),hl];simp
theorem posOf_le{α:Type}(f:α->Int)(l:List α):posOf f l<=l.length:=by
 unfold posOf;exact List.Sublist.length_le (List.takeWhile_sublist _)
theorem tr_fpO{th:Nat}{rv:Value}{os:List GOw}{p:Nat}{o:GOw}(h:(fpT th rv os).Nodup)(hp:os[p]? =some o):(fpO o).Nodup∧∀ b∈fpO o,b∈fpT th rv os:=by
 have hm:=List.mem_of_getElem? hp;obtain⟨e1,_⟩:=set_split hp o;constructor
 ·rw [fpT,e1] at h;simp only [List.flatMap_append,List.flatMap_cons,List.flatMap_nil,List.append_nil,List.nodup_cons,List.nodup_append] at h;exact h.2.2.1.1.2.1
 ·intro b hb;simp only [fpT,List.mem_cons,List.mem_append,List.mem_flatMap];exact .inr (.inr ⟨o,hm,hb⟩)
theorem ow_fpS{o:GOw}{j:Nat}{s:GSe}(h:(fpO o).Nodup)(hp:o.ss[j]? =some s):(fpS s).Nodup∧∀ b∈fpS s,b∈fpO o:=by
 have hm:=List.mem_of_getElem? hp;obtain⟨e1,_⟩:=set_split hp s;constructor
 ·rw [fpO,e1] at h;simp only [List.flatMap_append,List.flatMap_cons,List.flatMap_nil,List.append_nil,List.nodup_cons,List.nodup_append] at h;exact h.2.2.2.1.1.2.1
 ·intro b hb;simp only [fpO,List.mem_cons,List.mem_append,List.mem_flatMap];exact .inr (.inr (.inr ⟨s,hm,hb⟩))
def TrS(os:List GOw):Prop:=OwS os∧∀ o∈os,SeS o.ss∧o.ss.length<=400000∧∀ s∈o.ss,DaS s.da∧s.da.length<=400000
theorem GotO.sets{own:ByteArray}{lv:Value}{lab:List ByteArray}{l l':List GOw}{o:GOw}(h:GotO own lv lab l o l')(hd:TrS l):SeS o.ss∧o.ss.length<=400000∧∀ s∈o.ss,DaS s.da∧s.da.length<=400000:=by
 rcases h with⟨_,_,h1,_⟩|⟨_,_,_,_,_,h1⟩
 ·exact hd.2 o (List.mem_of_getElem? h1)
 ·rw [h1];exact⟨List.Pairwise.nil,by simp,by simp⟩
theorem GotS.data{ty tt:Int}{at_:Nat}{l l':List GSe}{s:GSe}(h:GotS ty tt at_ l s l')(hd:∀ s∈l,DaS s.da∧s.da.length<=400000):DaS s.da∧s.da.length<=400000:=by
 rcases h with⟨_,_,h1,_⟩|⟨_,_,_,_,_,h1⟩
 ·exact hd s (List.mem_of_getElem? h1)
 ·rw [h1];exact⟨List.Pairwise.nil,by simp⟩
set_option maxRecDepth 100000 in
set_option maxHeartbeats 3200000 in
theorem lay_any(bb oo th:Nat)(rv:Value)(os:List GOw)(B at_:Nat)(r:Rr)(la:Option Addr)(ln lc:Nat)(lab:List ByteArray)(w:World)(h:TrAt w B th rv os)(hB:B<=w.heap.size)(hl:os.length<=400000)(hd:TrS os)
 (hLab:LabAt w (fpT th rv os) os) (hlab:LabOK w (fpT th rv os) (.slice la ln lc) lab) (hc:w.cell? ⟨bb,oo+1,none⟩=some (ptr th)) (hbb:bb∉fpT th rv os) (hown:r.own.size<=1000000000) (hda:r.da.size<=2000000) (hat:at_<=1000000):
 Calls Tryz.prog 110 #[.pointer (some ⟨bb,oo,none⟩),.int .i64 (at_:Int),.agg #[.string r.own,.int .i64 r.ty,.int .i64 r.cl,.int .i64 r.tt,.string r.da],.slice la ln lc] w fun e w'=>∃ (ob sb:Nat) (isNew:Bool) (rv':Value) (os':List GOw),
  e=.returned (.tuple #[.agg #[.int .i64 (at_:Int),.int .i64 r.ty,ptr ob,ptr sb],.bool isNew])∧LayG r.own (.slice la ln lc) lab r.ty r.tt at_ (foldR r.ty r.da) r.da os os' ob sb isNew∧TrAt w' B th rv' os'∧Outs (fpT th rv os) w w'∧∀ b∈fpT th rv' os',b∈fpT th rv os∨w.heap.size<=b:=by
 have X:=Nm.hide (show ∀ W,W=(((w.alloc (.cells #[.int .i64 (at_:Int)] 3)).alloc (.cells #[.string r.own,.int .i64 r.ty,.int .i64 r.cl,.int .i64 r.tt,.string r.da] 33)).alloc (.cells #[.slice la ln lc] 85)).alloc (.cells #[.int .i64 0,.int .i64 0,.pointer none,.pointer none] 159)->
  Blk W w.heap.size #[.int .i64 (at_:Int)] 3∧Blk W (w.heap.size+1) #[.string r.own,.int .i64 r.ty,.int .i64 r.cl,.int .i64 r.tt,.string r.da] 33∧Blk W (w.heap.size+2) #[.slice la ln lc] 85∧Blk W (w.heap.size+3) #[.int .i64 0,.int .i64 0,.pointer none,.pointer none] 159∧Below w.heap.size w W∧W.heap.size=w.heap.size+4 from by
  rintro W rfl;have s1:(w.alloc (.cells #[.int .i64 (at_:Int)] 3)).heap.size=w.heap.size+1:=by simp
  have s2:((w.alloc (.cells #[.int .i64 (at_:Int)] 3)).alloc (.cells #[.string r.own,.int .i64 r.ty,.int .i64 r.cl,.int .i64 r.tt,.string r.da] 33)).heap.size=w.heap.size+2:=by simp
  have s3:(((w.alloc (.cells #[.int .i64 (at_:Int)] 3)).alloc (.cells #[.string r.own,.int .i64 r.ty,.int .i64 r.cl,.int .i64 r.tt,.string r.da] 33)).alloc (.cells #[.slice la ln lc] 85)).heap.size=w.heap.size+3:=by simp
  have k1:=blk_new w #[.int .i64 (at_:Int)] 3;have k2:=blk_new (w.alloc (.cells #[.int .i64 (at_:Int)] 3)) #[.string r.own,.int .i64 r.ty,.int .i64 r.cl,.int .i64 r.tt,.string r.da] 33;have k3:=blk_new ((w.alloc (.cells #[.int .i64 (at_:Int)] 3)).alloc (.cells #[.string r.own,.int .i64 r.ty,.int .i64 r.cl,.int .i64 r.tt,.string r.da] 33)) #[.slice la ln lc] 85;have k4:=blk_new (((w.alloc (.cells #[.int .i64 (at_:Int)] 3)).alloc (.cells #[.string r.own,.int .i64 r.ty,.int .i64 r.cl,.int .i64 r.tt,.string r.da] 33)).alloc (.cells #[.slice la ln lc] 85)) #[.int .i64 0,.int .i64 0,.pointer none,.pointer none] 159;rw [s1] at k2;rw [s2] at k3;rw [s3] at k4;refine⟨blk_alloc (blk_alloc (blk_alloc k1 _) _) _,blk_alloc (blk_alloc k2 _) _,blk_alloc k3 _,k4,?_,by simp⟩
  exact((((Below.refl w.heap.size w).alloc (Nat.le_refl _) _).alloc (by simp) _).alloc (by simp;omega) _).alloc (by simp;omega) _)
 have hmf:∀ (fn:Fn) (first cap:Array Value) (w:World),(Instr.makeFunc fn first cap).run Tryz.prog w=.ok (.func fn first cap) w:=fun _ _ _ _=>rfl
 have HH:=Nm.hide (And.intro h (And.intro hB (And.intro hd (And.intro hLab hlab))));clear h hB hd hLab hlab;go_enter Tryz.func110,Tryz.ntmps110;go_wp2;refine gen_worldT (Pr:=fun W=>Blk W w.heap.size #[.int .i64 (at_:Int)] 3∧Blk W (w.heap.size+1) #[.string r.own,.int .i64 r.ty,.int .i64 r.cl,.int .i64 r.tt,.string r.da] 33∧Blk W (w.heap.size+2) #[.slice la ln lc] 85∧Blk W (w.heap.size+3) #[.int .i64 0,.int .i64 0,.pointer none,.pointer none] 159∧Below w.heap.size w W∧W.heap.size=w.heap.size+4) (G:=fun W=>Code.wp _ _ _ _ W) (X.out _ rfl) ?_;rintro w0 ⟨ka,kr,kl,kd,b0,hs0⟩;clear X;have HS0:=Nm.hide hs0;clear hs0;have T0:=HH.out.1.below b0;have hfp:∀ b∈fpT th rv os,b<w.heap.size:=HH.out.1.lt
 have hc0:∀ W,Outs (fpT th rv os) w0 W->W.cell? ⟨bb,oo+1,none⟩=some (.pointer (some ⟨th,0,none⟩)):=fun W hW=>by
  have hlt:=World.block_lt_of_cell? w _ hc;rw [World.cell?_of_block (w:=w0) (hW.block bb (Nat.lt_of_lt_of_le hlt b0.size) hbb),World.cell?_of_block (w:=w) (b0.block bb hlt)];exact hc
 have hbx:∀ W,Outs (fpT th rv os) w0 W->Blk W w.heap.size #[.int .i64 (at_:Int)] 3∧Blk W (w.heap.size+1) #[.string r.own,.int .i64 r.ty,.int .i64 r.cl,.int .i64 r.tt,.string r.da] 33∧Blk W (w.heap.size+2) #[.slice la ln lc] 85∧Blk W (w.heap.size+3) #[.int .i64 0,.int .i64 0,.pointer none,.pointer none] 159:=fun W hW=>by
  have g:∀ b,w.heap.size<=b->b∉fpT th rv os:=fun b hb hm=>by have:=hfp b hm;omega
  exact⟨blk_keep ka (hW.block _ (blk_lt ka) (g _ (by omega))),blk_keep kr (hW.block _ (blk_lt kr) (g _ (by omega))),blk_keep kl (hW.block _ (blk_lt kl) (g _ (by omega))),blk_keep kd (hW.block _ (blk_lt kd) (g _ (by omega)))⟩
 have O0:Outs (fpT th rv os) w0 w0.drew:=Outs.below (Below.refl _ _).drew;have lab0:LabOK w0.drew (fpT th rv os) (.slice la ln lc) lab:=HH.out.2.2.2.2.outs (Outs.below b0.drew) (fun b hb=>.inl hb);have Lab0:LabAt w0.drew (fpT th rv os) os:=fun o ho=>(HH.out.2.2.2.1 o ho).outs (Outs.below b0.drew) (fun b hb=>.inl hb)
 have hown1:=owner_any th rv os B (w.heap.size+1) (w.heap.size+2) r.own la ln lc lab (.int .i64 r.ty) (.int .i64 r.cl) (.int .i64 r.tt) (.string r.da) w0.drew (T0.below (Below.refl _ _).drew) (Nat.le_trans HH.out.2.1 b0.size) (by omega) HH.out.2.2.1.1 Lab0 lab0 (hbx _ O0).2.1 (hbx _ O0).2.2.1 hown;unfold ptr at hown1;clear Lab0 lab0 hc ka kr kl kd;refine wp_region_last (fun W=>W.cell? ⟨bb,oo+1,none⟩=some (.pointer (some ⟨th,0,none⟩))∧W.cell? ⟨w.heap.size+2,0,none⟩=some (.slice la ln lc)∧True) 1000 (by kernel_rfl) ⟨hc0 _ O0,blk_cell (hbx _ O0).2.2.1 0,trivial⟩ (fun hHeld=>?_);refine tkL (i:=0) (v:=?_) rfl ?_ ?_;rotate_left 1
 ·(intro W hSW;obtain⟨z0,z1,z2⟩:=hSW;go_simp;try (with_reducible rfl))
 refine tkL (i:=1) (v:=?_) rfl ?_ ?_;rotate_left 1
 ·(intro W hSW;obtain⟨z0,z1,z2⟩:=hSW;go_simp;try (with_reducible rfl))
 refine tkL (i:=2) (v:=?_) rfl ?_ ?_;rotate_left 1
 ·(intro W hSW;obtain⟨z0,z1,z2⟩:=hSW;go_simp;try (with_reducible rfl))
 refine tkL (i:=3) (v:=?_) rfl ?_ ?_;rotate_left 1
 ·(intro W hSW;obtain⟨z0,z1,z2⟩:=hSW;go_simp;try (with_reducible rfl))
 refine tkL (i:=4) (v:=?_) rfl ?_ ?_;rotate_left 1
 ·(intro W hSW;obtain⟨z0,z1,z2⟩:=hSW;go_simp;try (with_reducible rfl))
 refine tkL (i:=5) (v:=?_) rfl ?_ ?_;rotate_left 1
 ·(intro W hSW;obtain⟨z0,z1,z2⟩:=hSW;go_simp;try (with_reducible rfl))
 refine wpAnyL_one (i:=6) (by kernel_rfl) rfl (fun K hK=>?_);go_simp;refine hown1.mono ?_;rintro e w1 ⟨o1,rv1,os1,rfl,hG1,T1,O1,M1⟩;go_wp2_with fail
 have O1':Outs (fpT th rv os) w0 w1:=O0.trans O1 (fun k hk=>.inl hk);refine hK.out _ _ ⟨hc0 _ O1',blk_cell (hbx _ O1').2.2.1 0,trivial⟩ (fun hHeld=>?_);clear hK K hown1;refine tkL (i:=7) (v:=?_) rfl ?_ ?_;rotate_left 1
 ·(intro W hSW;obtain⟨z0,z1,z2⟩:=hSW;go_simp;try (with_reducible rfl))
 refine wpAnyL_done (by kernel_rfl) ?_;have hp1:=hG1.at (posOf_le _ _);have ow1:=T1.owners o1 (List.mem_of_getElem? hp1);obtain⟨nd1,sub1⟩:=tr_fpO T1.nodup hp1;obtain⟨sS1,sL1,sD1⟩:=hG1.sets HH.out.2.2.1;have hBw1:B<=w1.heap.size:=Nat.le_trans HH.out.2.1 (Nat.le_trans b0.size O1'.size);have hset:=set_any o1 B (w.heap.size+1) w.heap.size at_ r.ty r.tt (.string r.own) (.int .i64 r.ty) (.int .i64 r.cl) (.string r.da) w1.drew (ow1.keep (fun b _=>rfl)) nd1 hBw1 (by omega) sS1 (blk_drew (hbx _ O1').2.1) (blk_drew (hbx _ O1').1);unfold ptr at hset;have hnode1:∀ W,Below w1.heap.size w1 W->W.cell? ⟨o1.blk,2,none⟩=some (.pointer (some ⟨o1.hd,0,none⟩))∧W.cell? ⟨w.heap.size+1,1,none⟩=some (.int .i64 r.ty):=fun W hW=>⟨blk_cell (blk_below ow1.node hW) 2,blk_cell (blk_below (hbx _ O1').2.1 hW) 1⟩
 have HT1:=Nm.hide (And.intro T1 (And.intro O1' (And.intro M1 hG1)));clear T1 O1 M1 hG1 T0;go_wp2;refine wp_region_last (fun W=>W.cell? ⟨o1.blk,2,none⟩=some (.pointer (some ⟨o1.hd,0,none⟩))∧W.cell? ⟨w.heap.size+1,1,none⟩=some (.int .i64 r.ty)∧True) 1000 (by kernel_rfl) ⟨(hnode1 _ (Below.refl _ _).drew).1,(hnode1 _ (Below.refl _ _).drew).2,trivial⟩ (fun hHeld=>?_);refine tkL (i:=0) (v:=?_) rfl ?_ ?_;rotate_left 1
 ·(intro W hSW;obtain⟨z0,z1,z2⟩:=hSW;go_simp;try (with_reducible rfl))
 refine tkL (i:=1) (v:=?_) rfl ?_ ?_;rotate_left 1
 ·(intro W hSW;obtain⟨z0,z1,z2⟩:=hSW;go_simp;try (with_reducible rfl))
 refine tkL (i:=2) (v:=?_) rfl ?_ ?_;rotate_left 1
 ·(intro W hSW;obtain⟨z0,z1,z2⟩:=hSW;go_simp;try (with_reducible rfl))
 refine tkL (i:=3) (v:=?_) rfl ?_ ?_;rotate_left 1
 ·(intro W hSW;obtain⟨z0,z1,z2⟩:=hSW;go_simp;try (with_reducible rfl))
 refine tkL (i:=4) (v:=?_) rfl ?_ ?_;rotate_left 1
 ·(intro W hSW;obtain⟨z0,z1,z2⟩:=hSW;go_simp;try (with_reducible rfl))
 refine tkL (i:=5) (v:=?_) rfl ?_ ?_;rotate_left 1
 ·(intro W hSW;obtain⟨z0,z1,z2⟩:=hSW;go_simp;try (with_reducible rfl))
 refine tkL (i:=6) (v:=?_) rfl ?_ ?_;rotate_left 1
 ·(intro W hSW;obtain⟨z0,z1,z2⟩:=hSW;go_simp;try (with_reducible rfl))
 refine wpAnyL_one (i:=7) (by kernel_rfl) rfl (fun K hK=>?_);go_simp;refine hset.mono ?_;rintro e w2 ⟨s2,rv2,ss2,rfl,hG2,ow2,nd2,O2,M2⟩;go_wp2_with fail
 have O2':Outs (fpO o1) w1 w2:=(Outs.below (Below.refl _ _).drew).trans O2 (fun k hk=>.inl hk);have O12:Outs (fpT th rv os) w0 w2:=HT1.out.2.1.trans O2' (fun k hk=>HT1.out.2.2.1 k (sub1 k hk));obtain⟨T2,M2'⟩:=tr_owner HT1.out.1 hp1 ow2 rfl rfl nd2 M2 O2' (fun b hb _=>hb);refine hK.out _ _ ⟨blk_cell ow2.node 2,blk_cell (hbx _ O12).2.1 1,trivial⟩ (fun hHeld=>?_);clear hK K hset;refine tkL (i:=8) (v:=?_) rfl ?_ ?_;rotate_left 1
 ·(intro W hSW;obtain⟨z0,z1,z2⟩:=hSW;go_simp;try (with_reducible rfl))
 refine wpAnyL_done (by kernel_rfl) ?_;have hj2:=hG2.at (posOf_le _ _);have se2:=ow2.sets s2 (List.mem_of_getElem? hj2);have hj2':({o1 with rv:=rv2,ss:=ss2}:GOw).ss[posOf (sCmp r.ty) o1.ss]? =some s2:=hj2;obtain⟨ns2,subS⟩:=ow_fpS nd2 hj2';obtain⟨dS2,dL2⟩:=hG2.data sD1;have k3:=blk_new w2 #[.bool false] 4;have b3:Below w2.heap.size w2 (w2.alloc (.cells #[.bool false] 4)):=(Below.refl _ _).alloc (Nat.le_refl _) _;have HT2:=Nm.hide (And.intro T2 (And.intro M2' (And.intro O12 (And.intro hG2 (And.intro ow2 nd2)))));have hsz02:w0.heap.size<=w2.heap.size:=O12.size;clear T2 M2' O2 O2' M2 hG2 hnode1;go_wp2;refine gen_worldT (Pr:=fun W=>Blk W w2.heap.size #[.bool false] 4∧Below w2.heap.size w2 W) (G:=fun W=>Code.wp _ _ _ _ W) ⟨k3,b3⟩ ?_;rintro w3 ⟨kn3,b3'⟩;clear k3 b3;have hsz23:w2.heap.size<w3.heap.size:=blk_lt kn3;have se3:=se2.keep (fun b hm=>b3'.block b (se2.lt b hm));have O13:Outs (fpT th rv os) w0 w3:=O12.trans (Outs.below (fp:=[]) b3') (fun k hk=>by cases hk);have hS3:∀ W,Below w3.heap.size w3 W->W.cell? ⟨s2.blk,2,none⟩=some (.pointer (some ⟨s2.hd,0,none⟩))∧W.cell? ⟨w.heap.size+1,1,none⟩=some (.int .i64 r.ty)∧W.cell? ⟨w.heap.size+1,4,none⟩=some (.string r.da):=fun W hW=>⟨blk_cell (blk_below se3.node hW) 2,blk_cell (blk_below (hbx _ O13).2.1 hW) 1,blk_cell (blk_below (hbx _ O13).2.1 hW) 4⟩
 have hfd:=fun W=>implFoldData_any r.ty r.da W hda
 have hdat:=fun W (hW:Below w3.heap.size w3 W)=>data_any s2 B w2.heap.size (w.heap.size+1) (foldR r.ty r.da) r.da (.string r.own) (.int .i64 r.ty) (.int .i64 r.cl) (.int .i64 r.tt) W (se3.keep (fun b hm=>hW.block b (se3.lt b hm))) (by have:=hW.size;have:=HH.out.2.1;have:=b0.size;omega) (by omega) dS2 (blk_below kn3 hW) (blk_below (hbx _ O13).2.1 hW) (by omega)
 unfold ptr at hdat;refine wp_region_last (fun W=>W.cell? ⟨s2.blk,2,none⟩=some (.pointer (some ⟨s2.hd,0,none⟩))∧W.cell? ⟨w.heap.size+1,1,none⟩=some (.int .i64 r.ty)∧W.cell? ⟨w.heap.size+1,4,none⟩=some (.string r.da)) 1000 (by kernel_rfl) (hS3 _ (Below.refl _ _).drew) (fun hHeld=>?_);refine tkL (i:=0) (v:=?_) rfl ?_ ?_;rotate_left 1
 ·(intro W hSW;obtain⟨z0,z1,z2⟩:=hSW;go_simp;try (with_reducible rfl))
 refine tkL (i:=1) (v:=?_) rfl ?_ ?_;rotate_left 1
 ·(intro W hSW;obtain⟨z0,z1,z2⟩:=hSW;go_simp;try (with_reducible rfl))
 refine tkL (i:=2) (v:=?_) rfl ?_ ?_;rotate_left 1
 ·(intro W hSW;obtain⟨z0,z1,z2⟩:=hSW;go_simp;try (with_reducible rfl))
 refine tkL (i:=3) (v:=?_) rfl ?_ ?_;rotate_left 1
 ·(intro W hSW;obtain⟨z0,z1,z2⟩:=hSW;go_simp;try (with_reducible rfl))
 refine tkL (i:=4) (v:=?_) rfl ?_ ?_;rotate_left 1
 ·(intro W hSW;obtain⟨z0,z1,z2⟩:=hSW;go_simp;try (with_reducible rfl))
 refine tkL (i:=5) (v:=?_) rfl ?_ ?_;rotate_left 1
 ·(intro W hSW;obtain⟨z0,z1,z2⟩:=hSW;go_simp;try (with_reducible rfl))
 refine tkL (i:=6) (v:=?_) rfl ?_ ?_;rotate_left 1
 ·(intro W hSW;obtain⟨z0,z1,z2⟩:=hSW;go_simp;try (with_reducible rfl))
 refine tkL (i:=7) (v:=?_) rfl ?_ ?_;rotate_left 1
 ·(intro W hSW;obtain⟨z0,z1,z2⟩:=hSW;go_simp;try (with_reducible rfl))
 refine tkL (i:=9) (v:=?_) rfl ?_ ?_;rotate_left 1
 ·(intro W hSW;obtain⟨z0,z1,z2⟩:=hSW;go_simp;try (with_reducible rfl))
 refine wpAnyL_one (i:=8) (by kernel_rfl) rfl (fun K hK=>?_);go_simp;refine(hfd _).mono ?_;rintro e w4 ⟨rfl,b4⟩;go_wp2_with fail
 have b34:Below w3.heap.size w3 w4:=Nm.below_two (Below.refl _ _).drew b4;refine hK.out _ _ (hS3 _ b34) (fun hHeld=>?_);clear hK K hfd;refine wpAnyL_one (i:=10) (by kernel_rfl) rfl (fun K hK=>?_);go_simp;refine(hdat _ b34).mono ?_;rintro e w5 ⟨dv,rv3,rfl,se5,kn5,O5,M5⟩;go_wp2_with fail
 have hb24:Below w2.heap.size w2 w4:=b3'.trans (b34.mono (by omega));have O25:Outs (w2.heap.size::fpS s2) w2 w5:=(Outs.below hb24).trans O5 (fun k hk=>.inl hk)
 have ns3:(fpS {s2 with rv:=rv3,da:=putF (dCmp (foldR r.ty r.da)) (foldR r.ty r.da,r.da) s2.da}).Nodup:=by
  have h1:=ns2;simp only [fpS,List.nodup_cons,List.mem_cons,not_or] at h1 ⊢;have e1:=own_nb se5.rows se5.node (by decide);have e2:=own_nb se5.rows se5.head (by decide);refine⟨⟨h1.1.1,fun hm=>e1 ?_⟩,fun hm=>e2 ?_,own_list _⟩
  ·simpa using hm
  ·simpa using hm
 have hm5:∀ b∈fpS {s2 with rv:=rv3,da:=putF (dCmp (foldR r.ty r.da)) (foldR r.ty r.da,r.da) s2.da},b∈fpS s2∨w2.heap.size<=b:=by
  intro b hb;simp only [fpS,List.mem_cons] at hb
  rcases hb with rfl|rfl|hb
  ·left;simp [fpS]
  ·left;simp [fpS]
  ·rcases M5 b hb with h1|h1
   ·exact .inl h1
   ·right;have:=hb24.size;omega
 have hFo:∀ b∈w2.heap.size::fpS s2,b∈fpO {o1 with rv:=rv2,ss:=ss2}->b∈fpS s2:=by
  intro b hb hbo
  rcases List.mem_cons.1 hb with rfl|hb
  ·have:=HT2.out.2.2.2.2.1.lt _ hbo;omega
  ·exact hb
 obtain⟨ow5,nd5,M5'⟩:=ow_set HT2.out.2.2.2.2.1 HT2.out.2.2.2.2.2 hj2' se5 rfl rfl ns3 hm5 O25 hFo
 have hpset:(os1.set (posOf (oCmp lab) os) {o1 with rv:=rv2,ss:=ss2})[posOf (oCmp lab) os]? =some {o1 with rv:=rv2,ss:=ss2}:=by
  rw [List.getElem?_set_self (List.getElem?_eq_some_iff.1 hp1).1]
 obtain⟨T5,M6⟩:=tr_owner HT2.out.1 hpset ow5 rfl rfl nd5 M5' O25 (fun b hb hbT=>by
  rcases List.mem_cons.1 hb with rfl|hb
  ·have:=HT2.out.1.lt _ hbT;omega
  ·exact subS b hb)
 rw [List.set_set] at T5 M6
 have O15:Outs (fpT th rv os) w0 w5:=O12.trans O25 (fun k hk=>by
  rcases List.mem_cons.1 hk with rfl|hk
  ·exact .inr hsz02
  ·rcases HT2.out.2.1 k ((tr_fpO HT2.out.1.nodup hpset).2 k (subS k hk)) with h1|h1
   ·exact HT1.out.2.2.1 k h1
   ·right;have:=HT1.out.2.1.size
    omega)
 have M7:∀ b∈fpT th rv1 (os1.set (posOf (oCmp lab) os) {o1 with rv:=rv2,ss:=ss2.set (posOf (sCmp r.ty) o1.ss) {s2 with rv:=rv3,da:=putF (dCmp (foldR r.ty r.da)) (foldR r.ty r.da,r.da) s2.da}}),b∈fpT th rv os∨w0.heap.size<=b:=by
  intro b hb
  rcases M6 b hb with h1|h1
  ·rcases HT2.out.2.1 b h1 with h2|h2
   ·exact HT1.out.2.2.1 b h2
   ·right;have:=HT1.out.2.1.size;omega
  ·right;omega
 refine hK.out _ _ ⟨blk_cell se5.node 2,blk_cell (hbx _ O15).2.1 1,blk_cell (hbx _ O15).2.1 4⟩ (fun hHeld=>?_);clear hK K hdat hS3;refine wpAnyL_done (by kernel_rfl) ?_;obtain⟨ka,kr,kl,kd⟩:=hbx _ O15;have HF:=Nm.hide (And.intro T5 (And.intro O15 M7));have HB0:=Nm.hide b0;clear T5 M6 M5' ow5 nd5 O25 O5 M5 se5 se3 se2 ow1 ow2 O12 O13 hpset hFo hm5 ns3 hb24 b34 b4 b3' hbx hc0 b0 kn3 O1' O0 M7 O15;have ra:=fun i=>blk_cell ka i
 have rr:=fun i=>blk_cell kr i
 have kd0:Blk w5 (w.heap.size+1+1+1) #[.int .i64 0,.int .i64 0,.pointer none,.pointer none] 159:=kd;have kd':=blk_drew kd0;have rd0:=(blk_cell kd0 0).trans rfl;have rd1:=(blk_cell kd0 1).trans rfl;have rd2:=(blk_cell kd0 2).trans rfl;have rd3:=(blk_cell kd0 3).trans rfl;have fd:=fun i=>blk_frozen kd0 i
 have rn:=fun i=>blk_cell kn5 i
 have Y:=Nm.hide (And.intro (setAll_new [.int .i64 (at_:Int),.int .i64 r.ty,.pointer (some ⟨o1.blk,0,none⟩),.pointer (some ⟨s2.blk,0,none⟩)] kd' rfl) (setAll_outs (b:=w.heap.size+1+1+1) [.int .i64 (at_:Int),.int .i64 r.ty,.pointer (some ⟨o1.blk,0,none⟩),.pointer (some ⟨s2.blk,0,none⟩)] 0 w5.drew));simp only [setAll,Nat.zero_add,Nat.reduceAdd] at Y;have hne1:¬w2.heap.size=w.heap.size+1+1+1:=by have:=HS0.out;omega
 have hne2:¬w.heap.size+1+1+1=w2.heap.size:=by have:=HS0.out;omega
 generalize hIN:(!isIn (dCmp (foldR r.ty r.da)) s2.da)=IN at*;have HIN:=Nm.hide hIN;clear hIN;go_wp2;go_region
 all_goals
  go_wp2;refine lay_back Y.out.1 rfl rfl rfl ?_;refine⟨o1.blk,s2.blk,IN,rv1,_,rfl,⟨o1,os1,s2,ss2,rv2,rv3,HT1.out.2.2.2,HT2.out.2.2.2.1,rfl,rfl,HIN.out.symm,rfl⟩,?_,?_,?_⟩
  ·refine HF.out.1.keep (fun b hb=>Y.out.2.block b (HF.out.1.lt b hb) (fun hm=>?_));simp only [List.mem_singleton] at hm;have h1:=HS0.out
   rcases HF.out.2.2 b hb with h2|h2
   ·have:=hfp b h2;omega
   ·omega
  ·have O5:Outs (fpT th rv os) w0 w5.drew:=HF.out.2.1.trans (Outs.below (fp:=[]) (Below.refl _ _).drew) (fun k hk=>by cases hk);have Oz:Outs (fpT th rv os) w w5.drew:=(Outs.below HB0.out).trans O5 (fun k hk=>.inl hk);refine Oz.trans Y.out.2 (fun k hk=>?_);simp only [List.mem_singleton] at hk;right;omega
  ·intro b hb
   rcases HF.out.2.2 b hb with h2|h2
   ·exact .inl h2
   ·right;have:=HS0.out;omega
theorem getSet_any(o:GOw)(B:Nat)(ty:Int)(w:World)(h:OwAt w B o)(hl:o.ss.length<=500000)(hd:SeS o.ss):
 Calls Tryz.prog 125 #[ptr o.hd,.int .i64 ty] w fun e w'=>Below w.heap.size w w'∧
  ((isIn (sCmp ty) o.ss=true∧∃ s,o.ss[posOf (sCmp ty) o.ss]? =some s∧s.ty=ty∧e=.returned (.tuple #[ptr s.blk,.bool true]))∨(isIn (sCmp ty) o.ss=false∧e=.returned (.tuple #[.pointer none,.bool false]))):=by
 have hdl:(seRs o.ss).length=o.ss.length:=by simp [seRs]
 have hcf:∀ (tb i:Nat) (p:Value×Value),(seRs o.ss)[i]? =some p->∀ W,Below w.heap.size w W->Blk W tb #[.pointer (some ⟨o.hd,0,none⟩)] 125->Calls Tryz.prog 184 #[.agg #[p.1,p.2],.int .i64 ty,.pointer (some ⟨tb,0,none⟩)] W fun e w'=>e=.returned (.int .i64 (cfOf (sCmp ty) o.ss i))∧Below W.heap.size W w':=by
  intro tb i p hp W hW kb;simp only [seRs,List.getElem?_map,Option.map_eq_some_iff] at hp;obtain⟨q,hq,rfl⟩:=hp;rw [cfOf_at hq];exact place1I_any tb o.hd o.rv (ptr q.blk) q.ty ty W kb (blk_below h.head hW)
 have hmono:=mono_of_pair (f:=sCmp ty) hd (fun a b hab hb=>by
  rw [sCmp,cmpI_neg] at hb ⊢
  omega)
 have hfnd:=posOf_fnd o.ss hmono
 cases hin:isIn (sCmp ty) o.ss with
 |true=>
  obtain⟨x,hx,hx0⟩:=isIn_some hin;have hx':(seRs o.ss)[posOf (sCmp ty) o.ss]? =some (.int .i64 x.ty,ptr x.blk):=by simp [seRs,hx]
  refine(getI_in o.hd B cmpIv o.rv (.int .i64 ty) (seRs o.ss) (cfOf (sCmp ty) o.ss) (posOf (sCmp ty) o.ss) _ w h.head h.rows (by omega) hcf (by rw [hdl];exact hmono) (by rw [hdl];exact hfnd) hx' (by rw [cfOf_at hx];exact hx0)).mono ?_;rintro e w' ⟨rfl,hb⟩
  exact⟨hb,.inl ⟨rfl,x,hx,cmpI_zero hx0,rfl⟩⟩
 |false=>
  refine(getI_out o.hd B cmpIv o.rv (.int .i64 ty) (seRs o.ss) (cfOf (sCmp ty) o.ss) (posOf (sCmp ty) o.ss) w h.head h.rows (by omega) hcf (by rw [hdl];exact hmono) (by rw [hdl];exact hfnd) (by rw [hdl];exact isIn_not hin)).mono ?_;rintro e w' ⟨rfl,hb⟩;exact⟨hb,.inr ⟨rfl,rfl⟩⟩
set_option maxHeartbeats 800000 in
theorem ownerHas_any(o:GOw)(B:Nat)(ty:Int)(w:World)(h:OwAt w B o)(hl:o.ss.length<=500000)(hd:SeS o.ss):
 Calls Tryz.prog 118 #[ptr o.blk,.int .i64 ty] w fun e w'=>e=.returned (.bool (isIn (sCmp ty) o.ss))∧Below w.heap.size w w':=by
 have hg:=getSet_any o B ty w h hl hd;have rn:=fun i=>blk_cell h.node i
 unfold ptr at*;go_enter Tryz.func118,Tryz.ntmps118;go_wp2_with fail
 refine hg.mono ?_;rintro e w' ⟨hb,⟨hin,s,_,_,rfl⟩|⟨hin,rfl⟩⟩
 ·have HIN:=Nm.hide hin;clear hin hg;go_wp2;go_ret;exact⟨by rw [HIN.out];rfl,hb⟩
 ·have HIN:=Nm.hide hin;clear hin hg;go_wp2;go_ret;exact⟨by rw [HIN.out];rfl,hb⟩
theorem getOwner_any(th:Nat)(rv:Value)(os:List GOw)(B:Nat)(nv:Value)(lab:List ByteArray)(w:World)(h:TrAt w B th rv os)(hl:os.length<=500000)(hd:OwS os)(hLab:LabAt w (fpT th rv os) os)(hn:Nm.SRow w nv lab)(hnl:lab.length<=1000000000):
 Calls Tryz.prog 132 #[ptr th,nv] w fun e w'=>Below w.heap.size w w'∧
  ((isIn (oCmp lab) os=true∧∃ o,os[posOf (oCmp lab) os]? =some o∧Nm.cmpLs o.lab lab=0∧e=.returned (.tuple #[ptr o.blk,.bool true]))∨(isIn (oCmp lab) os=false∧e=.returned (.tuple #[.pointer none,.bool false]))):=by
 have hdl:(owRs os).length=os.length:=by simp [owRs]
 have hcf:∀ (tb i:Nat) (p:Value×Value),(owRs os)[i]? =some p->∀ W,Below w.heap.size w W->Blk W tb #[.pointer (some ⟨th,0,none⟩)] 86->Calls Tryz.prog 188 #[.agg #[p.1,p.2],nv,.pointer (some ⟨tb,0,none⟩)] W fun e w'=>e=.returned (.int .i64 (cfOf (oCmp lab) os i))∧Below W.heap.size W w':=by
  intro tb i p hp W hW kb;simp only [owRs,List.getElem?_map,Option.map_eq_some_iff] at hp;obtain⟨q,hq,rfl⟩:=hp;rw [cfOf_at hq];have hq2:=hLab q (List.mem_of_getElem? hq);exact place1L_any tb th rv (ptr q.blk) q.lv nv q.lab lab W kb (blk_below h.head hW) (hq2.row.below hW) (hn.below hW) hq2.fit.1 hq2.fit.2 hnl
 have hmono:=mono_of_pair (f:=oCmp lab) hd (fun a b hab hb=>cmpLs_lt_trans hab hb);have hfnd:=posOf_fnd os hmono
 cases hin:isIn (oCmp lab) os with
 |true=>
  obtain⟨x,hx,hx0⟩:=isIn_some hin;have hx':(owRs os)[posOf (oCmp lab) os]? =some (x.lv,ptr x.blk):=by simp [owRs,hx]
  refine(getL_in th B cmpLv rv nv (owRs os) (cfOf (oCmp lab) os) (posOf (oCmp lab) os) _ w h.head h.rows (by omega) hcf (by rw [hdl];exact hmono) (by rw [hdl];exact hfnd) hx' (by rw [cfOf_at hx];exact hx0)).mono ?_;rintro e w' ⟨rfl,hb⟩
  exact⟨hb,.inl ⟨rfl,x,hx,hx0,rfl⟩⟩
 |false=>
  refine(getL_out th B cmpLv rv nv (owRs os) (cfOf (oCmp lab) os) (posOf (oCmp lab) os) w h.head h.rows (by omega) hcf (by rw [hdl];exact hmono) (by rw [hdl];exact hfnd) (by rw [hdl];exact isIn_not hin)).mono ?_;rintro e w' ⟨rfl,hb⟩;exact⟨hb,.inr ⟨rfl,rfl⟩⟩
def hasT(lab:List ByteArray)(ty:Int)(os:List GOw):Bool:=match os[posOf (oCmp lab) os]? with
 |some o=>isIn (oCmp lab) os&&isIn (sCmp ty) o.ss
 |none=>false
set_option maxHeartbeats 800000 in
theorem treeHas_any(bb oo th:Nat)(rv:Value)(os:List GOw)(B:Nat)(na:Option Addr)(nl nc:Nat)(lab:List ByteArray)(ty:Int)(w:World)(h:TrAt w B th rv os)(hl:os.length<=500000)(hd:TrS os)(hLab:LabAt w (fpT th rv os) os)(hn:Nm.SRow w (.slice na nl nc) lab)(hnl:lab.length<=1000000000)(hc:w.cell? ⟨bb,oo+1,none⟩=some (ptr th)):
 Calls Tryz.prog 113 #[.pointer (some ⟨bb,oo,none⟩),.slice na nl nc,.int .i64 ty] w fun e w'=>e=.returned (.bool (hasT lab ty os))∧Below w.heap.size w w':=by
 have hg:=getOwner_any th rv os B (.slice na nl nc) lab w h hl hd.1 hLab hn hnl;have hh:=fun o (ho:o∈os) W (hW:Below w.heap.size w W)=>ownerHas_any o B ty W ((h.below hW).owners o ho) (by have:=(hd.2 o ho).2.1;omega) (hd.2 o ho).1
 unfold ptr at hc hg hh;have HH:=Nm.hide hh;clear hh h hd hLab hn;go_enter Tryz.func113,Tryz.ntmps113;go_wp2_with fail
 refine hg.mono ?_;rintro e w1 ⟨hb,⟨hin,o,ho,_,rfl⟩|⟨hin,rfl⟩⟩
 ·have hh:=HH.out o (List.mem_of_getElem? ho) w1 hb;have HE:Hid (hasT lab ty os=isIn (sCmp ty) o.ss):=by show _=_;rw [hasT,ho,hin];rfl
  generalize isIn (sCmp ty) o.ss=IS at*;clear hg hin ho;go_wp2_with fail
  refine hh.mono ?_;rintro e w2 ⟨rfl,b2⟩;go_wp2;go_ret;exact⟨by rw [HE.out];rfl,Nm.below_two hb b2⟩
 ·have HE:Hid (hasT lab ty os=false):=by
   show _=_
   rw [hasT]
   cases os[posOf (oCmp lab) os]? with
   |none=>rfl
   |some o=>rw [hin];rfl
  clear hg hin;go_wp2;go_ret;exact⟨by rw [HE.out];rfl,hb⟩
end Go.Proofs.YtfmolgdfjklmpaaGreat
namespace Go.Proofs.YtfmolgdfjklmpaaGreat
open Go.RowKit Go.Shelf
set_option linter.unusedVariables false
attribute [local go_sem] Oper.semAt_some
theorem infoStrV:(Tryz.prog.info? 9).map (fun i=>(i.zero,i.size,i.bytes))=some (some (.string ByteArray.empty),1,16):=by kernel_rfl
set_option maxRecDepth 100000 in
set_option maxHeartbeats 2000000 in
theorem valuesOf_in(F:Fence)(n:Nat)(h3:F.fn 126)(h4:F.fn 157)(h5:F.fn 185)(hro:F.round=none)(hn:3<=n)
 (g:Nat) (sv:Value) (zs:List (ByteArray×ByteArray)) (hl:zs.length<=1000000) (w:World) (hg:g<w.heap.size) (kg:w.cell? ⟨g,1,none⟩=some sv) (hR:RwsS (fun p:ByteArray×ByteArray=>p.1) (fun p=>p.2) w.heap.size w sv zs):
 CallsIn F n Tryz.prog 126 #[.pointer (some ⟨g,0,none⟩)] w fun e W'=>∃ v,e=.returned v∧W'.ownsRow w.heap.size 9 1 v zs.length (zs.map fun p=>.string p.2)∧Below w.heap.size w W':=by
 have h1:1<=n:=by omega
 obtain⟨i0,hi,hz0,hz1,hz2⟩:=info_parts infoStrV;refine callsIn_of_wp_marks Tryz.func126 rfl h3 ?_ hro;simp only [Tryz.ntmps126,List.size_toArray,List.length_cons,List.length_nil,Nat.reduceAdd,Nat.reduceSub,Array.replicate_succ,Array.replicate_zero,List.push_toArray,List.append_toArray,List.nil_append,List.cons_append]
 gi_wp2_with (gi_at_call 157;refine(allS_in F (n-1) h4 hro _ _).mono ?_;rintro e w' ⟨rfl,rfl⟩)
 have bO:=Boxed.new w 46 (.slice none 0 0);have bN:=Boxed.new (w.alloc (.cells #[.slice none 0 0] 46)) 162 (.pointer (some ⟨g,0,none⟩));rw [World.size_alloc] at bN;have hB0:Below w.heap.size w ((w.alloc (.cells #[.slice none 0 0] 46)).alloc (.cells #[.pointer (some ⟨g,0,none⟩)] 162)):=((Below.refl _ w).alloc (Nat.le_refl _) _).alloc (by simp) _;have kg2:=(hB0.cell (p:=⟨g,1,none⟩) hg).trans kg
 refine wpIn_rangeFunc_ownG hro h1 (gf:=185) (lb:=#[.pointer (some ⟨w.heap.size+1,0,none⟩)]) rfl h5 (enters_of Tryz.func185 (by kernel_rfl) rfl)
  (allStopsS (fun p:ByteArray×ByteArray=>p.1) (fun p=>p.2) F (n-1) h5 hro (by omega) (w.heap.size+1) g w.heap.size sv zs hl _ (by simp) hg (by simp;omega) bN.cell kg2 (hR.below hB0)) belowK_t (belowK_b (by simp;omega)) (Below.refl _ _) (fun _=>rfl)
  (fun pre W=>(∃ v,Boxed W w.heap.size 46 v∧W.ownsRow w.heap.size 9 1 v pre.length (pre.map fun p=>.string p.2)∧True)∧Below w.heap.size w W)
  (fun _ _ _=>False)
  (OwnFrom.and (Own.from (holdsRow_own w.heap.size w.heap.size 46 9 1 (fun pre:List (ByteArray×ByteArray)=>pre.length) (fun pre=>pre.map fun p=>.string p.2) (fun pre v=>True)) _) (ownFrom_below (Nat.le_refl _) (by simp;omega)))
  (fun _ _ _ _ _ hs _ _=>hs)
  ⟨⟨_,bO.alloc _,World.ownsRow_nil _ _ _ _,trivial⟩,hB0⟩
  (fun x=>{tmps:=#[.pointer (some ⟨g,0,none⟩),undef,.slice none 0 0,.pointer (some ⟨w.heap.size,0,none⟩),undef,.string x.2,.pointer (some ⟨g,0,none⟩),.func (.func 185) #[] #[.pointer (some ⟨w.heap.size+1,0,none⟩)],.string x.1,.string x.2,undef,undef,undef,undef,undef],defers:=[]}) ?assign ?body ?done ?stop
 case assign=>
  intro l x W K hK
  gi_wp2
  exact hK
 case body=>
  rintro l pre x W ⟨⟨v,hv,hrow,-⟩,hB⟩ hlt;have hc:=hv.cell;have hm:zs.length<=maxLen:=by unfold maxLen;omega
  gi_wp2_with (gi_at_builtin;refine wpListIn_append_own _ rfl _ _ 46 rfl w.heap.size 9 i0 (.string ByteArray.empty) 1 16 Tryz.underlying46 hi hz0 hz1 hz2 rfl (by decide) _ _ _ rfl (hrow.alloc _) ⟨W.heap.size,0,none⟩ 1 1 [.string x.2] rfl rfl (cell_one_new _ _ _) (by simp [Value.oneCell']) (by omega) (by omega) (by have:=hB.size;simp;omega) ?_;intro v' w1 hown' hgrow _;obtain⟨g',cap',rfl⟩:=ownsRow_succ hown';obtain⟨hv1,hv2,hr2,hk2,hb2⟩:=hv.appended (by decide) hrow hB.size (Nat.le_refl _) hown' hgrow;have hc1:=hv1.cell;have hf1:=hv1.frozen)
  exact⟨hk2.from _,hb2,⟨_,hv2,by simpa using hr2,trivial⟩,hB.trans hb2⟩
 case done=>
  rintro D ys W hD rfl ⟨⟨v,hv,hrow,-⟩,hB⟩ hK;have hc:=hv.cell
  gi_wp2
  refine⟨by simp,.inl ⟨_,_,rfl,run_takeDeferred hK,?_⟩⟩;exact⟨_,results_tmp rfl _ _ _,v,rfl,ownsRow_putObj hrow _ hK rfl,hB.trans (belowK_b (w:=w) (Nat.le_refl _) W D _ _ (by simp at hD;omega) hK rfl rfl)⟩
 case stop=>
  rintro D c pre W _ _ h _;exact h.elim
theorem valuesOf_any(g:Nat)(sv:Value)(zs:List (ByteArray×ByteArray))(hl:zs.length<=1000000)(w:World)(hg:g<w.heap.size)(kg:w.cell? ⟨g,1,none⟩=some sv)(hR:RwsS (fun p:ByteArray×ByteArray=>p.1) (fun p=>p.2) w.heap.size w sv zs):
 Calls Tryz.prog 126 #[.pointer (some ⟨g,0,none⟩)] w fun e W'=>∃ v,e=.returned v∧W'.ownsRow w.heap.size 9 1 v zs.length (zs.map fun p=>.string p.2)∧Below w.heap.size w W':=
 (callsIn_wide (n:=3)).1 (valuesOf_in _ 3 trivial trivial trivial rfl (by omega) g sv zs hl w hg kg hR)
end Go.Proofs.YtfmolgdfjklmpaaGreat
namespace Go.Proofs.YtfmolgdfjklmpaaGreat
open Go.RowKit
set_option linter.unusedVariables false
theorem SeS.one{l:List GSe}(h:SeS l){a b:GSe}(ha:a∈l)(hb:b∈l)(e:a.ty=b.ty):a=b:=by
 induction l with
 |nil=>cases ha
 |cons x l ih=>
  have hx:=List.pairwise_cons.1 h
  rcases List.mem_cons.1 ha with rfl|ha'
  ·rcases List.mem_cons.1 hb with rfl|hb'
   ·rfl
   ·have:=hx.1 b hb';omega
  ·rcases List.mem_cons.1 hb with rfl|hb'
   ·have:=hx.1 a ha';omega
   ·exact ih hx.2 ha' hb'
theorem SeS.found{l:List GSe}(h:SeS l){s:GSe}(hs:s∈l):isIn (sCmp s.ty) l=true∧l[posOf (sCmp s.ty) l]? =some s:=by
 have hmono:=mono_of_pair (f:=sCmp s.ty) h (fun a b hab hb=>by
  rw [sCmp,cmpI_neg] at hb ⊢
  omega)
 have hfnd:=posOf_fnd l hmono;obtain⟨k,hk⟩:=List.mem_iff_getElem?.1 hs;have hkl:=(List.getElem?_eq_some_iff.1 hk).1
 have hz:sCmp s.ty s=0:=by
  rcases Int.lt_trichotomy (sCmp s.ty s) 0 with h1|h1|h1
  ·rw [sCmp,cmpI_neg] at h1;omega
  ·exact h1
  ·rw [sCmp,Nm.cmpI] at h1;simp at h1
 have hF:Fnd l.length (cfOf (sCmp s.ty) l) k:=by
  refine⟨Nat.le_of_lt hkl,fun i hi=>?_,fun i h1 h2=>?_⟩
  ·have hi':l[i]? =some l[i]:=List.getElem?_eq_getElem (by omega);rw [cfOf_at hi',sCmp,cmpI_neg];have:=List.pairwise_iff_getElem.1 h i k (by omega) hkl hi;rw [(List.getElem?_eq_some_iff.1 hk).2] at this;exact this
  ·have hi':l[i]? =some l[i]:=List.getElem?_eq_getElem h2;rw [cfOf_at hi']
   rcases Int.lt_or_le (sCmp s.ty l[i]) 0 with h3|h3
   ·rw [sCmp,cmpI_neg] at h3
    rcases Nat.lt_or_eq_of_le h1 with h4|rfl
    ·have:=List.pairwise_iff_getElem.1 h k i hkl h2 h4;rw [(List.getElem?_eq_some_iff.1 hk).2] at this;omega
    ·rw [(List.getElem?_eq_some_iff.1 hk).2] at h3;omega
   ·exact h3
 have e:=Fnd.unique hfnd hF;rw [isIn,e,cfOf_at hk,hz];exact⟨by simp [hkl],hk⟩
theorem OwAt.below{w w':World}{B:Nat}{o:GOw}(h:OwAt w B o)(hb:Below w.heap.size w w'):OwAt w' B o:=h.keep fun b hm=>hb.block b (h.lt b hm)
set_option maxRecDepth 100000 in
set_option maxHeartbeats 1600000 in
theorem ownerSet_any(o:GOw)(s:GSe)(B:Nat)(w:World)(h:OwAt w B o)(hl:o.ss.length<=500000)(hd:SeS o.ss)(hs:s∈o.ss)(hsl:s.da.length<=1000000):
 Calls Tryz.prog 81 #[ptr o.blk,.int .i64 s.ty] w fun e w'=>∃ v,e=.returned (.tuple #[.agg #[.string o.nm,.int .i64 s.ty,.int .i64 s.tt,v],.bool true])∧w'.ownsRow w.heap.size 9 1 v s.da.length (s.da.map fun p=>.string p.2)∧Below w.heap.size w w':=by
 have hB0:=(Below.refl w.heap.size w).alloc (Nat.le_refl _) (.cells #[.string ⟨#[]⟩,.int .i64 0,.int .i64 0,.slice none 0 0] 53);have kZ:=blk_new w #[.string ⟨#[]⟩,.int .i64 0,.int .i64 0,.slice none 0 0] 53;have h1:=h.below hB0
 have hg:=(getSet_any o B s.ty _ h1 hl hd).mono (R':=fun e w'=>Below (w.heap.size+1) (w.alloc (.cells #[.string ⟨#[]⟩,.int .i64 0,.int .i64 0,.slice none 0 0] 53)) w'∧e=.returned (.tuple #[ptr s.blk,.bool true])) (by
  rintro e w' ⟨hb,⟨_,s',h1,h2,rfl⟩|⟨hno,_⟩⟩
  ·obtain rfl:=hd.one (List.mem_of_getElem? h1) hs h2;exact⟨by simpa using hb,rfl⟩
  ·rw [(hd.found hs).1] at hno;cases hno)
 have hv:=fun W (hW:Below w.heap.size w W)=>valuesOf_any s.hd s.rv s.da hsl W (Nat.lt_of_lt_of_le (blk_lt (h.sets s hs).head) hW.size) ((blk_cell (blk_below (h.sets s hs).head hW) 1).trans rfl) ((rwsS_own (fun p:ByteArray×ByteArray=>p.1) (fun p=>p.2) s.da (by have:=own_below (h.sets s hs).rows hW;rw [show(daRs s.da).length=s.da.length by simp [daRs]] at this;exact this)))
 have rn:=fun i=>blk_cell h1.node i
 have kn:=h.node;have ks:=(h.sets s hs).node;have HV:=Nm.hide hv;unfold ptr at hg rn kn ks ⊢;clear h h1 hd hs hv;go_enter Tryz.func81,Tryz.ntmps81;go_wp2_with fail
 refine hg.mono ?_;rintro e w1 ⟨hb1,rfl⟩;have bw1:Below w.heap.size w w1:=hB0.trans (hb1.mono (Nat.le_succ _));have kn1:=blk_below kn bw1;have ks1:=blk_below ks bw1;have kZ1:Blk w1 w.heap.size _ _:=blk_below kZ (by simpa using hb1);clear hg rn kn ks hb1;go_wp2_with fail
 refine wp_region_S (S:=fun W=>W.cell? ⟨o.blk,0,none⟩=some (.string o.nm)∧W.cell? ⟨s.blk,0,none⟩=some (.int .i64 s.tt)∧W.cell? ⟨s.blk,2,none⟩=some (.pointer (some ⟨s.hd,0,none⟩))) (Ls:=[15,16]) rfl ⟨(blk_cell (blk_drew kn1) 0).trans rfl,(blk_cell (blk_drew ks1) 0).trans rfl,(blk_cell (blk_drew ks1) 2).trans rfl⟩ (fun hH=>?_);refine wpAnyS_take (i:=0) (v:=?_) rfl (by kernel_rfl) (by kernel_rfl) (by kernel_rfl) (by kernel_rfl) (fun _ _ _ h=>h) (Or.inl ⟨by rfl,?_⟩) (by assumption) ?_;rotate_left 1
 ·(intro w hSw;obtain⟨t2,t3,t4⟩:=hSw;go_simp;try (with_reducible rfl))
 refine wpAnyS_take (i:=1) (v:=?_) rfl (by kernel_rfl) (by kernel_rfl) (by kernel_rfl) (by kernel_rfl) (fun _ _ _ h=>h) (Or.inl ⟨by rfl,?_⟩) (by assumption) ?_;rotate_left 1
 ·(intro w hSw;obtain⟨t2,t3,t4⟩:=hSw;go_simp;try (with_reducible rfl))
 refine wpAnyS_take (i:=2) (v:=?_) rfl (by kernel_rfl) (by kernel_rfl) (by kernel_rfl) (by kernel_rfl) (fun _ _ _ h=>h) (Or.inl ⟨by rfl,?_⟩) (by assumption) ?_;rotate_left 1
 ·(intro w hSw;obtain⟨t2,t3,t4⟩:=hSw;go_simp;try (with_reducible rfl))
 refine wpAnyS_take (i:=3) (v:=?_) rfl (by kernel_rfl) (by kernel_rfl) (by kernel_rfl) (by kernel_rfl) (fun _ _ _ h=>h) (Or.inl ⟨by rfl,?_⟩) (by assumption) ?_;rotate_left 1
 ·(intro w hSw;obtain⟨t2,t3,t4⟩:=hSw;go_simp;try (with_reducible rfl))
 refine wpAnyS_take (i:=4) (v:=?_) rfl (by kernel_rfl) (by kernel_rfl) (by kernel_rfl) (by kernel_rfl) (fun _ _ _ h=>h) (Or.inl ⟨by rfl,?_⟩) (by assumption) ?_;rotate_left 1
 ·(intro w hSw;obtain⟨t2,t3,t4⟩:=hSw;go_simp;try (with_reducible rfl))
 refine wpAnyS_take (i:=5) (v:=?_) rfl (by kernel_rfl) (by kernel_rfl) (by kernel_rfl) (by kernel_rfl) (fun _ _ _ h=>h) (Or.inl ⟨by rfl,?_⟩) (by assumption) ?_;rotate_left 1
 ·(intro w hSw;obtain⟨t2,t3,t4⟩:=hSw;go_simp;try (with_reducible rfl))
 refine wpAnyS_take (i:=6) (v:=?_) rfl (by kernel_rfl) (by kernel_rfl) (by kernel_rfl) (by kernel_rfl) (fun _ _ _ h=>h) (Or.inl ⟨by rfl,?_⟩) (by assumption) ?_;rotate_left 1
 ·(intro w hSw;obtain⟨t2,t3,t4⟩:=hSw;go_simp;try (with_reducible rfl))
 refine wpAnyS_take (i:=7) (v:=?_) rfl (by kernel_rfl) (by kernel_rfl) (by kernel_rfl) (by kernel_rfl) (fun _ _ _ h=>h) (Or.inl ⟨by rfl,?_⟩) (by assumption) ?_;rotate_left 1
 ·(intro w hSw;obtain⟨t2,t3,t4⟩:=hSw;go_simp;try (with_reducible rfl))
 refine wpAnyS_take (i:=8) (v:=?_) rfl (by kernel_rfl) (by kernel_rfl) (by kernel_rfl) (by kernel_rfl) (fun _ _ _ h=>h) (Or.inl ⟨by rfl,?_⟩) (by assumption) ?_;rotate_left 1
 ·(intro w hSw;obtain⟨t2,t3,t4⟩:=hSw;go_simp;try (with_reducible rfl))
 refine wpAnyS_take (i:=9) (v:=?_) rfl (by kernel_rfl) (by kernel_rfl) (by kernel_rfl) (by kernel_rfl) (fun _ _ _ h=>h) (Or.inl ⟨by rfl,?_⟩) (by assumption) ?_;rotate_left 1
 ·(intro w hSw;obtain⟨t2,t3,t4⟩:=hSw;go_simp;try (with_reducible rfl))
 refine wpAnyS_take (i:=10) (v:=?_) rfl (by kernel_rfl) (by kernel_rfl) (by kernel_rfl) (by kernel_rfl) (fun _ _ _ h=>h) (Or.inl ⟨by rfl,?_⟩) (by assumption) ?_;rotate_left 1
 ·(intro w hSw;obtain⟨t2,t3,t4⟩:=hSw;go_simp;try (with_reducible rfl))
 refine wpAnyS_take (i:=11) (v:=?_) rfl (by kernel_rfl) (by kernel_rfl) (by kernel_rfl) (by kernel_rfl) (fun _ _ _ h=>h) (Or.inl ⟨by rfl,?_⟩) (by assumption) ?_;rotate_left 1
 ·(intro w hSw;obtain⟨t2,t3,t4⟩:=hSw;go_simp;try (with_reducible rfl))
 refine wpAnyS_take (i:=12) (v:=?_) rfl (by kernel_rfl) (by kernel_rfl) (by kernel_rfl) (by kernel_rfl) (fun _ _ _ h=>h) (Or.inl ⟨by rfl,?_⟩) (by assumption) ?_;rotate_left 1
 ·(intro w hSw;obtain⟨t2,t3,t4⟩:=hSw;go_simp;try (with_reducible rfl))
 refine wpAnyS_one (i:=13) (by kernel_rfl) rfl (fun K hK'=>?_);go_simp;have bd:=(Below.refl w1.heap.size w1).drew;refine(HV.out _ (bw1.drew)).mono ?_;rintro e w3 ⟨v,rfl,ho3,d3⟩;have d3':=bd.trans d3;have kn3:=blk_below kn1 d3';have ks3:=blk_below ks1 d3';have kZ3:=blk_below kZ1 d3';have bw3:=Nm.below_two bw1 d3';obtain⟨va,vc,rfl⟩:=own_sl ho3;have HLT:Hid (w.heap.size<w1.heap.size):=blk_lt kZ1;clear kn1 ks1 kZ1 hH;go_wp2_with fail
 refine hK'.out _ _ ⟨(blk_cell kn3 0).trans rfl,(blk_cell ks3 0).trans rfl,(blk_cell ks3 2).trans rfl⟩ (fun hH=>?_);clear hK' K;refine wpAnyS_take (i:=14) (v:=?_) rfl (by kernel_rfl) (by kernel_rfl) (by kernel_rfl) (by kernel_rfl) (fun _ _ _ h=>h) (Or.inl ⟨by rfl,?_⟩) (by assumption) ?_;rotate_left 1
 ·(intro w hSw;obtain⟨t2,t3,t4⟩:=hSw;go_simp;try (with_reducible rfl))
 refine wpAnyS_late (i:=15) (by kernel_rfl) rfl (by kernel_rfl) (fun K hK'=>?_);have rz:=fun i=>blk_cell kZ3 i
 have fz:=fun i=>blk_frozen kZ3 i
 go_simp;refine hK'.out _ _ ?_;clear hK' K;refine wpAnyS_late (i:=16) (by kernel_rfl) rfl (by kernel_rfl) (fun K hK'=>?_);go_simp;refine hK'.out _ _ ?_;clear hK' K;refine wpAnyS_done (by kernel_rfl) ?_;have hfar:(Value.slice va s.da.length vc).ownBlock≠some w.heap.size:=fun e=>by have:=(ho3.lt _ e).1;have:=HLT.out;simp at*;omega
 have k4:=blk_set (blk_set (blk_set (blk_set kZ3 0 (.string o.nm)) 1 (.int .i64 s.ty)) 2 (.int .i64 s.tt)) 3 (.slice va s.da.length vc);simp only [List.setIfInBounds_toArray,List.set_cons_zero,List.set_cons_succ] at k4;have ho4:=own_far (y:=.slice va s.da.length vc) (i:=3) (g:=w.heap.size) (own_far (y:=.int .i64 s.tt) (i:=2) (g:=w.heap.size) (own_far (y:=.int .i64 s.ty) (i:=1) (g:=w.heap.size) (own_far (y:=.string o.nm) (i:=0) (g:=w.heap.size) ho3 hfar) hfar) hfar) hfar;have bw4:=(((bw3.setCell (p:=⟨w.heap.size,0,none⟩) (Nat.le_refl _) (.string o.nm)).setCell (p:=⟨w.heap.size,1,none⟩) (Nat.le_refl _) (.int .i64 s.ty)).setCell (p:=⟨w.heap.size,2,none⟩) (Nat.le_refl _) (.int .i64 s.tt)).setCell (p:=⟨w.heap.size,3,none⟩) (Nat.le_refl _) (.slice va s.da.length vc);have rk:=fun i=>blk_cell k4 i
 clear rz fz hH;go_wp2_with fail
 refine bodyPost_ret (v:=.tuple #[.agg #[.string o.nm,.int .i64 s.ty,.int .i64 s.tt,.slice va s.da.length vc],.bool true]) ?_ rfl ⟨_,rfl,own_base ho4 bw1.size,bw4⟩;simp [results,Tryz.f81,go_sem,rk]
end Go.Proofs.YtfmolgdfjklmpaaGreat
