import Derived.Test.YtcihkbojmbfmmaaGreatDoorJTrR
import Derived.Test.YtcihkbojmbfmmaaGreatDoorJSSmall
import Derived.Test.YtcihkbojmbfmmaaGreatDoorJMath
import Derived.Test.YtcihkbojmbfmmaaGreatDoorJTbII
namespace Go.Proofs.YtcihkbojmbfmmaaGreatDoor
open Go.RowKit
set_option linter.unusedVariables false
theorem setAll_outs{b:Nat}:∀ (vs:List Value) (i:Nat) (w:World),Outs [b] w (setAll w b i vs):=by
 intro vs
 induction vs with
 |nil=>intro i w;exact⟨rfl,rfl,rfl,Nat.le_refl _,fun _ _ _=>rfl⟩
 |cons v vs ih=>
  intro i w;have h1:Outs [b] w (w.setCell ⟨b,i,none⟩ v):=⟨rfl,rfl,rfl,by simp,fun k _ hk=>heap_setCell_other w ⟨b,i,none⟩ k _ (by simpa using hk)⟩;exact h1.trans (ih (i+1) _) (fun k hk=>.inl hk)
theorem lay_back{W:World}{b:Nat}{x0 x1 x2 x3:Value}{ok:Bool}{R:Ending->World->Prop}{a:Act}(h:Blk W b #[x0,x1,x2,x3] 160)
 (h2:a.tmps[8]? =some (.pointer (some ⟨b,0,none⟩))) (h3:a.tmps[9]? =some (.bool ok)) (hd:a.defers=[])
 (hR:R (.returned (.tuple #[.agg #[x0,x1,x2,x3],.bool ok])) W):bodyPost Tryz.prog Tryz.f111 R .ret a W:=by
 refine bodyPost_ret ?_ hd hR;have r:=fun i=>blk_cell h i
 simp [results,Tryz.results111,go_sem,Result.andThen,r,h2,h3]
theorem gen_worldT{Pr G:World->Prop}{W:World}(h:Pr W)(k:∀ W,Pr W->G W):G W:=k W h
def LayG(own:ByteArray)(lv:Value)(lab:List ByteArray)(ty tt:Int)(at_:Nat)(fd da:ByteArray)(os os':List GOw)(ob sb:Nat)(isNew:Bool):Prop:=
 ∃ (o1:GOw) (os1:List GOw) (s2:GSe) (ss2:List GSe) (rv2 rv3:Value),GotO own lv lab os o1 os1∧GotS ty tt at_ o1.ss s2 ss2∧ob=o1.blk∧sb=s2.blk∧isNew= !isIn (dCmp fd) s2.da∧
   os'=os1.set (posOf (oCmp lab) os) {o1 with rv:=rv2,ss:=ss2.set (posOf (sCmp ty) o1.ss) {s2 with rv:=rv3,da:=putF (dCmp fd) (fd,da) s2.da}}
theorem GotO.at{own:ByteArray}{lv:Value}{lab:List ByteArray}{l l':List GOw}{o:GOw}(h:GotO own lv lab l o l')(hp:posOf (oCmp lab) l<=l.length):l'[posOf (oCmp lab) l]? =some o:=by
 rcases h with⟨_,rfl,h1,_⟩|⟨_,rfl,_⟩
 ·exact h1
 ·have hl:(l.take (posOf (oCmp lab) l)).length=posOf (oCmp lab) l:=by rw [List.length_take];omega
  rw [insAt,List.append_assoc,List.getElem?_append_right (by omega),hl];simp
theorem GotS.at{ty tt:Int}{at_:Nat}{l l':List GSe}{s:GSe}(h:GotS ty tt at_ l s l')(hp:posOf (sCmp ty) l<=l.length):l'[posOf (sCmp ty) l]? =some s:=by
 rcases h with⟨_,rfl,h1,_⟩|⟨_,rfl,_⟩
 ·exact h1
 ·have hl:(l.take (posOf (sCmp ty) l)).length=posOf (sCmp ty) l:=by rw [List.length_take];omega
  rw [insAt,List.append_assoc,List.getElem?_append_right (by omega),hl];simp
theorem posOf_le{α:Type}(f:α->Int)(l:List α):posOf f l<=l.length:=by
 unfold posOf;exact List.Sublist.length_le (List.takeWhile_sublist _)
theorem tr_fpO{th:Nat}{rv:Value}{os:List GOw}{p:Nat}{o:GOw}(h:(fpT th rv os).Nodup)(hp:os[p]? =some o):(fpO o).Nodup∧∀ b∈fpO o,b∈fpT th rv os:=by
 have hm:=List.mem_of_getElem? hp;obtain⟨e1,_⟩:=set_split hp o;constructor
 ·rw [fpT,e1] at h;simp only [List.flatMap_append,List.flatMap_cons,List.flatMap_nil,List.append_nil,List.nodup_cons,List.nodup_append] at h;exact h.2.2.1.1.2.1
 ·intro b hb;simp only [fpT,List.mem_cons,List.mem_append,List.mem_flatMap];exact .inr (.inr ⟨o,hm,hb⟩)
theorem ow_fpS{o:GOw}{j:Nat}{s:GSe}(h:(fpO o).Nodup)(hp:o.ss[j]? =some s):(fpS s).Nodup∧∀ b∈fpS s,b∈fpO o:=by
 have hm:=List.mem_of_getElem? hp;obtain⟨e1,_⟩:=set_split hp s;constructor
 ·rw [fpO,e1] at h;simp only [List.flatMap_append,List.flatMap_cons,List.flatMap_nil,List.append_nil,List.nodup_cons,List.nodup_append] at h;exact h.2.2.2.1.1.2.1
 ·intro b hb;simp only [fpO,List.mem_cons,List.mem_append,List.mem_flatMap];exact .inr (.inr (.inr ⟨s,hm,hb⟩))
def TrS(os:List GOw):Prop:=OwS os∧∀ o∈os,SeS o.ss∧o.ss.length<=400000∧∀ s∈o.ss,DaS s.da∧s.da.length<=400000
theorem GotO.sets{own:ByteArray}{lv:Value}{lab:List ByteArray}{l l':List GOw}{o:GOw}(h:GotO own lv lab l o l')(hd:TrS l):SeS o.ss∧o.ss.length<=400000∧∀ s∈o.ss,DaS s.da∧s.da.length<=400000:=by
 rcases h with⟨_,_,h1,_⟩|⟨_,_,_,_,_,h1⟩
 ·exact hd.2 o (List.mem_of_getElem? h1)
 ·rw [h1];exact⟨List.Pairwise.nil,by simp,by simp⟩
theorem GotS.data{ty tt:Int}{at_:Nat}{l l':List GSe}{s:GSe}(h:GotS ty tt at_ l s l')(hd:∀ s∈l,DaS s.da∧s.da.length<=400000):DaS s.da∧s.da.length<=400000:=by
 rcases h with⟨_,_,h1,_⟩|⟨_,_,_,_,_,h1⟩
 ·exact hd s (List.mem_of_getElem? h1)
 ·rw [h1];exact⟨List.Pairwise.nil,by simp⟩
set_option maxRecDepth 100000 in
set_option maxHeartbeats 3200000 in
theorem lay_any(bb oo th:Nat)(rv:Value)(os:List GOw)(B at_:Nat)(r:Rr)(la:Option Addr)(ln lc:Nat)(lab:List ByteArray)(w:World)(h:TrAt w B th rv os)(hB:B<=w.heap.size)(hl:os.length<=400000)(hd:TrS os)
 (hLab:LabAt w (fpT th rv os) os) (hlab:LabOK w (fpT th rv os) (.slice la ln lc) lab) (hc:w.cell? ⟨bb,oo+1,none⟩=some (ptr th)) (hbb:bb∉fpT th rv os) (hown:r.own.size<=1000000000) (hda:r.da.size<=2000000) (hat:at_<=1000000):
 Calls Tryz.prog 111 #[.pointer (some ⟨bb,oo,none⟩),.int .i64 (at_:Int),.agg #[.string r.own,.int .i64 r.ty,.int .i64 r.cl,.int .i64 r.tt,.string r.da],.slice la ln lc] w fun e w'=>∃ (ob sb:Nat) (isNew:Bool) (rv':Value) (os':List GOw),
  e=.returned (.tuple #[.agg #[.int .i64 (at_:Int),.int .i64 r.ty,ptr ob,ptr sb],.bool isNew])∧LayG r.own (.slice la ln lc) lab r.ty r.tt at_ (foldR r.ty r.da) r.da os os' ob sb isNew∧TrAt w' B th rv' os'∧Outs (fpT th rv os) w w'∧∀ b∈fpT th rv' os',b∈fpT th rv os∨w.heap.size<=b:=by
 have X:=Nm.hide (show ∀ W,W=(((w.alloc (.cells #[.int .i64 (at_:Int)] 3)).alloc (.cells #[.string r.own,.int .i64 r.ty,.int .i64 r.cl,.int .i64 r.tt,.string r.da] 73)).alloc (.cells #[.slice la ln lc] 91)).alloc (.cells #[.int .i64 0,.int .i64 0,.pointer none,.pointer none] 160)->
  Blk W w.heap.size #[.int .i64 (at_:Int)] 3∧Blk W (w.heap.size+1) #[.string r.own,.int .i64 r.ty,.int .i64 r.cl,.int .i64 r.tt,.string r.da] 73∧Blk W (w.heap.size+2) #[.slice la ln lc] 91∧Blk W (w.heap.size+3) #[.int .i64 0,.int .i64 0,.pointer none,.pointer none] 160∧Below w.heap.size w W∧W.heap.size=w.heap.size+4 from by
  rintro W rfl;have s1:(w.alloc (.cells #[.int .i64 (at_:Int)] 3)).heap.size=w.heap.size+1:=by simp
  have s2:((w.alloc (.cells #[.int .i64 (at_:Int)] 3)).alloc (.cells #[.string r.own,.int .i64 r.ty,.int .i64 r.cl,.int .i64 r.tt,.string r.da] 73)).heap.size=w.heap.size+2:=by simp
  have s3:(((w.alloc (.cells #[.int .i64 (at_:Int)] 3)).alloc (.cells #[.string r.own,.int .i64 r.ty,.int .i64 r.cl,.int .i64 r.tt,.string r.da] 73)).alloc (.cells #[.slice la ln lc] 91)).heap.size=w.heap.size+3:=by simp
  have k1:=blk_new w #[.int .i64 (at_:Int)] 3;have k2:=blk_new (w.alloc (.cells #[.int .i64 (at_:Int)] 3)) #[.string r.own,.int .i64 r.ty,.int .i64 r.cl,.int .i64 r.tt,.string r.da] 73;have k3:=blk_new ((w.alloc (.cells #[.int .i64 (at_:Int)] 3)).alloc (.cells #[.string r.own,.int .i64 r.ty,.int .i64 r.cl,.int .i64 r.tt,.string r.da] 73)) #[.slice la ln lc] 91;have k4:=blk_new (((w.alloc (.cells #[.int .i64 (at_:Int)] 3)).alloc (.cells #[.string r.own,.int .i64 r.ty,.int .i64 r.cl,.int .i64 r.tt,.string r.da] 73)).alloc (.cells #[.slice la ln lc] 91)) #[.int .i64 0,.int .i64 0,.pointer none,.pointer none] 160;rw [s1] at k2;rw [s2] at k3;rw [s3] at k4;refine⟨blk_alloc (blk_alloc (blk_alloc k1 _) _) _,blk_alloc (blk_alloc k2 _) _,blk_alloc k3 _,k4,?_,by simp⟩
  exact((((Below.refl w.heap.size w).alloc (Nat.le_refl _) _).alloc (by simp) _).alloc (by simp;omega) _).alloc (by simp;omega) _)
 have hmf:∀ (fn:Fn) (first cap:Array Value) (w:World),(Instr.makeFunc fn first cap).run Tryz.prog w=.ok (.func fn first cap) w:=fun _ _ _ _=>rfl
 have HH:=Nm.hide (And.intro h (And.intro hB (And.intro hd (And.intro hLab hlab))));clear h hB hd hLab hlab;go_enter Tryz.func111,Tryz.ntmps111;go_wp2;refine gen_worldT (Pr:=fun W=>Blk W w.heap.size #[.int .i64 (at_:Int)] 3∧Blk W (w.heap.size+1) #[.string r.own,.int .i64 r.ty,.int .i64 r.cl,.int .i64 r.tt,.string r.da] 73∧Blk W (w.heap.size+2) #[.slice la ln lc] 91∧Blk W (w.heap.size+3) #[.int .i64 0,.int .i64 0,.pointer none,.pointer none] 160∧Below w.heap.size w W∧W.heap.size=w.heap.size+4) (G:=fun W=>Code.wp _ _ _ _ W) (X.out _ rfl) ?_;rintro w0 ⟨ka,kr,kl,kd,b0,hs0⟩;clear X;have HS0:=Nm.hide hs0;clear hs0;have T0:=HH.out.1.below b0;have hfp:∀ b∈fpT th rv os,b<w.heap.size:=HH.out.1.lt
 have hc0:∀ W,Outs (fpT th rv os) w0 W->W.cell? ⟨bb,oo+1,none⟩=some (.pointer (some ⟨th,0,none⟩)):=fun W hW=>by
  have hlt:=World.block_lt_of_cell? w _ hc;rw [World.cell?_of_block (w:=w0) (hW.block bb (Nat.lt_of_lt_of_le hlt b0.size) hbb),World.cell?_of_block (w:=w) (b0.block bb hlt)];exact hc
 have hbx:∀ W,Outs (fpT th rv os) w0 W->Blk W w.heap.size #[.int .i64 (at_:Int)] 3∧Blk W (w.heap.size+1) #[.string r.own,.int .i64 r.ty,.int .i64 r.cl,.int .i64 r.tt,.string r.da] 73∧Blk W (w.heap.size+2) #[.slice la ln lc] 91∧Blk W (w.heap.size+3) #[.int .i64 0,.int .i64 0,.pointer none,.pointer none] 160:=fun W hW=>by
  have g:∀ b,w.heap.size<=b->b∉fpT th rv os:=fun b hb hm=>by have:=hfp b hm;omega
  exact⟨blk_keep ka (hW.block _ (blk_lt ka) (g _ (by omega))),blk_keep kr (hW.block _ (blk_lt kr) (g _ (by omega))),blk_keep kl (hW.block _ (blk_lt kl) (g _ (by omega))),blk_keep kd (hW.block _ (blk_lt kd) (g _ (by omega)))⟩
 have O0:Outs (fpT th rv os) w0 w0.drew:=Outs.below (Below.refl _ _).drew;have lab0:LabOK w0.drew (fpT th rv os) (.slice la ln lc) lab:=HH.out.2.2.2.2.outs (Outs.below b0.drew) (fun b hb=>.inl hb);have Lab0:LabAt w0.drew (fpT th rv os) os:=fun o ho=>(HH.out.2.2.2.1 o ho).outs (Outs.below b0.drew) (fun b hb=>.inl hb)
 have hown1:=owner_any th rv os B (w.heap.size+1) (w.heap.size+2) r.own la ln lc lab (.int .i64 r.ty) (.int .i64 r.cl) (.int .i64 r.tt) (.string r.da) w0.drew (T0.below (Below.refl _ _).drew) (Nat.le_trans HH.out.2.1 b0.size) (by omega) HH.out.2.2.1.1 Lab0 lab0 (hbx _ O0).2.1 (hbx _ O0).2.2.1 hown;unfold ptr at hown1;clear Lab0 lab0 hc ka kr kl kd;refine wp_region_last (fun W=>W.cell? ⟨bb,oo+1,none⟩=some (.pointer (some ⟨th,0,none⟩))∧W.cell? ⟨w.heap.size+2,0,none⟩=some (.slice la ln lc)∧True) 1000 (by kernel_rfl) ⟨hc0 _ O0,blk_cell (hbx _ O0).2.2.1 0,trivial⟩ (fun hHeld=>?_);refine tkL (i:=0) (v:=?_) rfl ?_ ?_;rotate_left 1
 ·(intro W hSW;obtain⟨z0,z1,z2⟩:=hSW;go_simp;try (with_reducible rfl))
 refine tkL (i:=1) (v:=?_) rfl ?_ ?_;rotate_left 1
 ·(intro W hSW;obtain⟨z0,z1,z2⟩:=hSW;go_simp;try (with_reducible rfl))
 refine tkL (i:=2) (v:=?_) rfl ?_ ?_;rotate_left 1
 ·(intro W hSW;obtain⟨z0,z1,z2⟩:=hSW;go_simp;try (with_reducible rfl))
 refine tkL (i:=3) (v:=?_) rfl ?_ ?_;rotate_left 1
 ·(intro W hSW;obtain⟨z0,z1,z2⟩:=hSW;go_simp;try (with_reducible rfl))
 refine tkL (i:=4) (v:=?_) rfl ?_ ?_;rotate_left 1
 ·(intro W hSW;obtain⟨z0,z1,z2⟩:=hSW;go_simp;try (with_reducible rfl))
 refine tkL (i:=5) (v:=?_) rfl ?_ ?_;rotate_left 1
 ·(intro W hSW;obtain⟨z0,z1,z2⟩:=hSW;go_simp;try (with_reducible rfl))
 refine wpAnyL_one (i:=6) (by kernel_rfl) rfl (fun K hK=>?_);go_simp;refine hown1.mono ?_;rintro e w1 ⟨o1,rv1,os1,rfl,hG1,T1,O1,M1⟩;go_wp2_with fail
 have O1':Outs (fpT th rv os) w0 w1:=O0.trans O1 (fun k hk=>.inl hk);refine hK.out _ _ ⟨hc0 _ O1',blk_cell (hbx _ O1').2.2.1 0,trivial⟩ (fun hHeld=>?_);clear hK K hown1;refine tkL (i:=7) (v:=?_) rfl ?_ ?_;rotate_left 1
 ·(intro W hSW;obtain⟨z0,z1,z2⟩:=hSW;go_simp;try (with_reducible rfl))
 refine wpAnyL_done (by kernel_rfl) ?_;have hp1:=hG1.at (posOf_le _ _);have ow1:=T1.owners o1 (List.mem_of_getElem? hp1);obtain⟨nd1,sub1⟩:=tr_fpO T1.nodup hp1;obtain⟨sS1,sL1,sD1⟩:=hG1.sets HH.out.2.2.1;have hBw1:B<=w1.heap.size:=Nat.le_trans HH.out.2.1 (Nat.le_trans b0.size O1'.size);have hset:=set_any o1 B (w.heap.size+1) w.heap.size at_ r.ty r.tt (.string r.own) (.int .i64 r.ty) (.int .i64 r.cl) (.string r.da) w1.drew (ow1.keep (fun b _=>rfl)) nd1 hBw1 (by omega) sS1 (blk_drew (hbx _ O1').2.1) (blk_drew (hbx _ O1').1);unfold ptr at hset;have hnode1:∀ W,Below w1.heap.size w1 W->W.cell? ⟨o1.blk,2,none⟩=some (.pointer (some ⟨o1.hd,0,none⟩))∧W.cell? ⟨w.heap.size+1,1,none⟩=some (.int .i64 r.ty):=fun W hW=>⟨blk_cell (blk_below ow1.node hW) 2,blk_cell (blk_below (hbx _ O1').2.1 hW) 1⟩
 have HT1:=Nm.hide (And.intro T1 (And.intro O1' (And.intro M1 hG1)));clear T1 O1 M1 hG1 T0;go_wp2;refine wp_region_last (fun W=>W.cell? ⟨o1.blk,2,none⟩=some (.pointer (some ⟨o1.hd,0,none⟩))∧W.cell? ⟨w.heap.size+1,1,none⟩=some (.int .i64 r.ty)∧True) 1000 (by kernel_rfl) ⟨(hnode1 _ (Below.refl _ _).drew).1,(hnode1 _ (Below.refl _ _).drew).2,trivial⟩ (fun hHeld=>?_);refine tkL (i:=0) (v:=?_) rfl ?_ ?_;rotate_left 1
 ·(intro W hSW;obtain⟨z0,z1,z2⟩:=hSW;go_simp;try (with_reducible rfl))
 refine tkL (i:=1) (v:=?_) rfl ?_ ?_;rotate_left 1
 ·(intro W hSW;obtain⟨z0,z1,z2⟩:=hSW;go_simp;try (with_reducible rfl))
 refine tkL (i:=2) (v:=?_) rfl ?_ ?_;rotate_left 1
 ·(intro W hSW;obtain⟨z0,z1,z2⟩:=hSW;go_simp;try (with_reducible rfl))
 refine tkL (i:=3) (v:=?_) rfl ?_ ?_;rotate_left 1
 ·(intro W hSW;obtain⟨z0,z1,z2⟩:=hSW;go_simp;try (with_reducible rfl))
 refine tkL (i:=4) (v:=?_) rfl ?_ ?_;rotate_left 1
 ·(intro W hSW;obtain⟨z0,z1,z2⟩:=hSW;go_simp;try (with_reducible rfl))
 refine tkL (i:=5) (v:=?_) rfl ?_ ?_;rotate_left 1
 ·(intro W hSW;obtain⟨z0,z1,z2⟩:=hSW;go_simp;try (with_reducible rfl))
 refine tkL (i:=6) (v:=?_) rfl ?_ ?_;rotate_left 1
 ·(intro W hSW;obtain⟨z0,z1,z2⟩:=hSW;go_simp;try (with_reducible rfl))
 refine wpAnyL_one (i:=7) (by kernel_rfl) rfl (fun K hK=>?_);go_simp;refine hset.mono ?_;rintro e w2 ⟨s2,rv2,ss2,rfl,hG2,ow2,nd2,O2,M2⟩;go_wp2_with fail
 have O2':Outs (fpO o1) w1 w2:=(Outs.below (Below.refl _ _).drew).trans O2 (fun k hk=>.inl hk);have O12:Outs (fpT th rv os) w0 w2:=HT1.out.2.1.trans O2' (fun k hk=>HT1.out.2.2.1 k (sub1 k hk));obtain⟨T2,M2'⟩:=tr_owner HT1.out.1 hp1 ow2 rfl rfl nd2 M2 O2' (fun b hb _=>hb);refine hK.out _ _ ⟨blk_cell ow2.node 2,blk_cell (hbx _ O12).2.1 1,trivial⟩ (fun hHeld=>?_);clear hK K hset;refine tkL (i:=8) (v:=?_) rfl ?_ ?_;rotate_left 1
 ·(intro W hSW;obtain⟨z0,z1,z2⟩:=hSW;go_simp;try (with_reducible rfl))
 refine wpAnyL_done (by kernel_rfl) ?_;have hj2:=hG2.at (posOf_le _ _);have se2:=ow2.sets s2 (List.mem_of_getElem? hj2);have hj2':({o1 with rv:=rv2,ss:=ss2}:GOw).ss[posOf (sCmp r.ty) o1.ss]? =some s2:=hj2;obtain⟨ns2,subS⟩:=ow_fpS nd2 hj2';obtain⟨dS2,dL2⟩:=hG2.data sD1;have k3:=blk_new w2 #[.bool false] 4;have b3:Below w2.heap.size w2 (w2.alloc (.cells #[.bool false] 4)):=(Below.refl _ _).alloc (Nat.le_refl _) _;have HT2:=Nm.hide (And.intro T2 (And.intro M2' (And.intro O12 (And.intro hG2 (And.intro ow2 nd2)))));have hsz02:w0.heap.size<=w2.heap.size:=O12.size;clear T2 M2' O2 O2' M2 hG2 hnode1;go_wp2;refine gen_worldT (Pr:=fun W=>Blk W w2.heap.size #[.bool false] 4∧Below w2.heap.size w2 W) (G:=fun W=>Code.wp _ _ _ _ W) ⟨k3,b3⟩ ?_;rintro w3 ⟨kn3,b3'⟩;clear k3 b3;have hsz23:w2.heap.size<w3.heap.size:=blk_lt kn3;have se3:=se2.keep (fun b hm=>b3'.block b (se2.lt b hm));have O13:Outs (fpT th rv os) w0 w3:=O12.trans (Outs.below (fp:=[]) b3') (fun k hk=>by cases hk);have hS3:∀ W,Below w3.heap.size w3 W->W.cell? ⟨s2.blk,2,none⟩=some (.pointer (some ⟨s2.hd,0,none⟩))∧W.cell? ⟨w.heap.size+1,1,none⟩=some (.int .i64 r.ty)∧W.cell? ⟨w.heap.size+1,4,none⟩=some (.string r.da):=fun W hW=>⟨blk_cell (blk_below se3.node hW) 2,blk_cell (blk_below (hbx _ O13).2.1 hW) 1,blk_cell (blk_below (hbx _ O13).2.1 hW) 4⟩
 have hfd:=fun W=>implFoldData_any r.ty r.da W hda
 have hdat:=fun W (hW:Below w3.heap.size w3 W)=>data_any s2 B w2.heap.size (w.heap.size+1) (foldR r.ty r.da) r.da (.string r.own) (.int .i64 r.ty) (.int .i64 r.cl) (.int .i64 r.tt) W (se3.keep (fun b hm=>hW.block b (se3.lt b hm))) (by have:=hW.size;have:=HH.out.2.1;have:=b0.size;omega) (by omega) dS2 (blk_below kn3 hW) (blk_below (hbx _ O13).2.1 hW) (by omega)
 unfold ptr at hdat;refine wp_region_last (fun W=>W.cell? ⟨s2.blk,2,none⟩=some (.pointer (some ⟨s2.hd,0,none⟩))∧W.cell? ⟨w.heap.size+1,1,none⟩=some (.int .i64 r.ty)∧W.cell? ⟨w.heap.size+1,4,none⟩=some (.string r.da)) 1000 (by kernel_rfl) (hS3 _ (Below.refl _ _).drew) (fun hHeld=>?_);refine tkL (i:=0) (v:=?_) rfl ?_ ?_;rotate_left 1
 ·(intro W hSW;obtain⟨z0,z1,z2⟩:=hSW;go_simp;try (with_reducible rfl))
 refine tkL (i:=1) (v:=?_) rfl ?_ ?_;rotate_left 1
 ·(intro W hSW;obtain⟨z0,z1,z2⟩:=hSW;go_simp;try (with_reducible rfl))
 refine tkL (i:=2) (v:=?_) rfl ?_ ?_;rotate_left 1
 ·(intro W hSW;obtain⟨z0,z1,z2⟩:=hSW;go_simp;try (with_reducible rfl))
 refine tkL (i:=3) (v:=?_) rfl ?_ ?_;rotate_left 1
 ·(intro W hSW;obtain⟨z0,z1,z2⟩:=hSW;go_simp;try (with_reducible rfl))
 refine tkL (i:=4) (v:=?_) rfl ?_ ?_;rotate_left 1
 ·(intro W hSW;obtain⟨z0,z1,z2⟩:=hSW;go_simp;try (with_reducible rfl))
 refine tkL (i:=5) (v:=?_) rfl ?_ ?_;rotate_left 1
 ·(intro W hSW;obtain⟨z0,z1,z2⟩:=hSW;go_simp;try (with_reducible rfl))
 refine tkL (i:=6) (v:=?_) rfl ?_ ?_;rotate_left 1
 ·(intro W hSW;obtain⟨z0,z1,z2⟩:=hSW;go_simp;try (with_reducible rfl))
 refine tkL (i:=7) (v:=?_) rfl ?_ ?_;rotate_left 1
 ·(intro W hSW;obtain⟨z0,z1,z2⟩:=hSW;go_simp;try (with_reducible rfl))
 refine tkL (i:=9) (v:=?_) rfl ?_ ?_;rotate_left 1
 ·(intro W hSW;obtain⟨z0,z1,z2⟩:=hSW;go_simp;try (with_reducible rfl))
 refine wpAnyL_one (i:=8) (by kernel_rfl) rfl (fun K hK=>?_);go_simp;refine(hfd _).mono ?_;rintro e w4 ⟨rfl,b4⟩;go_wp2_with fail
 have b34:Below w3.heap.size w3 w4:=Nm.below_two (Below.refl _ _).drew b4;refine hK.out _ _ (hS3 _ b34) (fun hHeld=>?_);clear hK K hfd;refine wpAnyL_one (i:=10) (by kernel_rfl) rfl (fun K hK=>?_);go_simp;refine(hdat _ b34).mono ?_;rintro e w5 ⟨dv,rv3,rfl,se5,kn5,O5,M5⟩;go_wp2_with fail
 have hb24:Below w2.heap.size w2 w4:=b3'.trans (b34.mono (by omega));have O25:Outs (w2.heap.size::fpS s2) w2 w5:=(Outs.below hb24).trans O5 (fun k hk=>.inl hk)
 have ns3:(fpS {s2 with rv:=rv3,da:=putF (dCmp (foldR r.ty r.da)) (foldR r.ty r.da,r.da) s2.da}).Nodup:=by
  have h1:=ns2;simp only [fpS,List.nodup_cons,List.mem_cons,not_or] at h1 ⊢;have e1:=own_nb se5.rows se5.node (by decide);have e2:=own_nb se5.rows se5.head (by decide);refine⟨⟨h1.1.1,fun hm=>e1 ?_⟩,fun hm=>e2 ?_,own_list _⟩
  ·simpa using hm
  ·simpa using hm
 have hm5:∀ b∈fpS {s2 with rv:=rv3,da:=putF (dCmp (foldR r.ty r.da)) (foldR r.ty r.da,r.da) s2.da},b∈fpS s2∨w2.heap.size<=b:=by
  intro b hb;simp only [fpS,List.mem_cons] at hb
  rcases hb with rfl|rfl|hb
  ·left;simp [fpS]
  ·left;simp [fpS]
  ·rcases M5 b hb with h1|h1
   ·exact .inl h1
   ·right;have:=hb24.size;omega
 have hFo:∀ b∈w2.heap.size::fpS s2,b∈fpO {o1 with rv:=rv2,ss:=ss2}->b∈fpS s2:=by
  intro b hb hbo
  rcases List.mem_cons.1 hb with rfl|hb
  ·have:=HT2.out.2.2.2.2.1.lt _ hbo;omega
  ·exact hb
 obtain⟨ow5,nd5,M5'⟩:=ow_set HT2.out.2.2.2.2.1 HT2.out.2.2.2.2.2 hj2' se5 rfl rfl ns3 hm5 O25 hFo
 have hpset:(os1.set (posOf (oCmp lab) os) {o1 with rv:=rv2,ss:=ss2})[posOf (oCmp lab) os]? =some {o1 with rv:=rv2,ss:=ss2}:=by
  rw [List.getElem?_set_self (List.getElem?_eq_some_iff.1 hp1).1]
 obtain⟨T5,M6⟩:=tr_owner HT2.out.1 hpset ow5 rfl rfl nd5 M5' O25 (fun b hb hbT=>by
  rcases List.mem_cons.1 hb with rfl|hb
  ·have:=HT2.out.1.lt _ hbT;omega
  ·exact subS b hb)
 rw [List.set_set] at T5 M6
 have O15:Outs (fpT th rv os) w0 w5:=O12.trans O25 (fun k hk=>by
  rcases List.mem_cons.1 hk with rfl|hk
  ·exact .inr hsz02
  ·rcases HT2.out.2.1 k ((tr_fpO HT2.out.1.nodup hpset).2 k (subS k hk)) with h1|h1
   ·exact HT1.out.2.2.1 k h1
   ·right;have:=HT1.out.2.1.size
    omega)
 have M7:∀ b∈fpT th rv1 (os1.set (posOf (oCmp lab) os) {o1 with rv:=rv2,ss:=ss2.set (posOf (sCmp r.ty) o1.ss) {s2 with rv:=rv3,da:=putF (dCmp (foldR r.ty r.da)) (foldR r.ty r.da,r.da) s2.da}}),b∈fpT th rv os∨w0.heap.size<=b:=by
  intro b hb
  rcases M6 b hb with h1|h1
  ·rcases HT2.out.2.1 b h1 with h2|h2
   ·exact HT1.out.2.2.1 b h2
   ·right;have:=HT1.out.2.1.size;omega
  ·right;omega
 refine hK.out _ _ ⟨blk_cell se5.node 2,blk_cell (hbx _ O15).2.1 1,blk_cell (hbx _ O15).2.1 4⟩ (fun hHeld=>?_);clear hK K hdat hS3;refine wpAnyL_done (by kernel_rfl) ?_;obtain⟨ka,kr,kl,kd⟩:=hbx _ O15;have HF:=Nm.hide (And.intro T5 (And.intro O15 M7));have HB0:=Nm.hide b0;clear T5 M6 M5' ow5 nd5 O25 O5 M5 se5 se3 se2 ow1 ow2 O12 O13 hpset hFo hm5 ns3 hb24 b34 b4 b3' hbx hc0 b0 kn3 O1' O0 M7 O15;have ra:=fun i=>blk_cell ka i
 have rr:=fun i=>blk_cell kr i
 have kd0:Blk w5 (w.heap.size+1+1+1) #[.int .i64 0,.int .i64 0,.pointer none,.pointer none] 160:=kd;have kd':=blk_drew kd0;have rd0:=(blk_cell kd0 0).trans rfl;have rd1:=(blk_cell kd0 1).trans rfl;have rd2:=(blk_cell kd0 2).trans rfl;have rd3:=(blk_cell kd0 3).trans rfl;have fd:=fun i=>blk_frozen kd0 i
 have rn:=fun i=>blk_cell kn5 i
 have Y:=Nm.hide (And.intro (setAll_new [.int .i64 (at_:Int),.int .i64 r.ty,.pointer (some ⟨o1.blk,0,none⟩),.pointer (some ⟨s2.blk,0,none⟩)] kd' rfl) (setAll_outs (b:=w.heap.size+1+1+1) [.int .i64 (at_:Int),.int .i64 r.ty,.pointer (some ⟨o1.blk,0,none⟩),.pointer (some ⟨s2.blk,0,none⟩)] 0 w5.drew));simp only [setAll,Nat.zero_add,Nat.reduceAdd] at Y;have hne1:¬w2.heap.size=w.heap.size+1+1+1:=by have:=HS0.out;omega
 have hne2:¬w.heap.size+1+1+1=w2.heap.size:=by have:=HS0.out;omega
 generalize hIN:(!isIn (dCmp (foldR r.ty r.da)) s2.da)=IN at*;have HIN:=Nm.hide hIN;clear hIN;go_wp2;go_region
 all_goals
  go_wp2;refine lay_back Y.out.1 rfl rfl rfl ?_;refine⟨o1.blk,s2.blk,IN,rv1,_,rfl,⟨o1,os1,s2,ss2,rv2,rv3,HT1.out.2.2.2,HT2.out.2.2.2.1,rfl,rfl,HIN.out.symm,rfl⟩,?_,?_,?_⟩
  ·refine HF.out.1.keep (fun b hb=>Y.out.2.block b (HF.out.1.lt b hb) (fun hm=>?_));simp only [List.mem_singleton] at hm;have h1:=HS0.out
   rcases HF.out.2.2 b hb with h2|h2
   ·have:=hfp b h2;omega
   ·omega
  ·have O5:Outs (fpT th rv os) w0 w5.drew:=HF.out.2.1.trans (Outs.below (fp:=[]) (Below.refl _ _).drew) (fun k hk=>by cases hk);have Oz:Outs (fpT th rv os) w w5.drew:=(Outs.below HB0.out).trans O5 (fun k hk=>.inl hk);refine Oz.trans Y.out.2 (fun k hk=>?_);simp only [List.mem_singleton] at hk;right;omega
  ·intro b hb
   rcases HF.out.2.2 b hb with h2|h2
   ·exact .inl h2
   ·right;have:=HS0.out;omega
set_option maxRecDepth 100000 in
set_option maxHeartbeats 1600000 in
theorem getI_in(g B:Nat)(cmpv rv key:Value)(rs:List (Value×Value))(cf:Nat->Int)(k:Nat)(p:Value×Value)(w:World)(hg:Blk w g #[cmpv,rv] 183)(h:w.ownsRow B 185 2 rv rs.length (rowCs rs))(hl:rs.length<=1000000)
 (hf:∀ (tb i:Nat) (p:Value×Value),rs[i]? =some p->∀ W,Below w.heap.size w W->Blk W tb #[.pointer (some ⟨g,0,none⟩)] 138->Calls Tryz.prog 169 #[.agg #[p.1,p.2],key,.pointer (some ⟨tb,0,none⟩)] W fun e w'=>e=.returned (.int .i64 (cf i))∧Below W.heap.size W w')
 (hm:∀ a b,a<=b->b<rs.length->cf b<0->cf a<0) (hk:Fnd rs.length cf k) (hp:rs[k]? =some p) (h0:cf k=0):
 Calls Tryz.prog 126 #[.pointer (some ⟨g,0,none⟩),key] w fun e w'=>e=.returned (.tuple #[p.2,.bool true])∧Below w.heap.size w w':=by
 have hpl:=placeI_any g cmpv rv key rs cf w hg (CRow.of_owns h) hl hf hm;have hkl:=(List.getElem?_eq_some_iff.1 hp).1;have at1:=rowCs_at rs k 1 p hp (by decide);obtain⟨_,a,cap,rfl,hcap,hmx,hc⟩:=CRow.of_owns h;obtain⟨b,off,rfl,hcell⟩:=hc (by omega);have c1:=hcell _ _ at1;have HK:=Nm.hide hk;have H0:=Nm.hide (And.intro hkl h0);unfold maxLen at hmx;have n1:(0:Int)<=(k:Int):=by omega
 have n2:(k:Int)<(rs.length:Int):=by omega
 clear hf hm hk hp h0 h hcell hc at1;go_enter Tryz.func126,Tryz.ntmps126;go_wp2_with fail
 refine hpl.mono ?_;rintro e w1 ⟨k',hk',rfl,b1⟩;obtain rfl:=Fnd.unique HK.out hk';rw [decide_eq_true H0.out.1,decide_eq_true H0.out.2];have kg:=blk_below hg b1;have rg:=fun i=>blk_cell kg i
 have d1:w1.cell? ⟨b,off+k*2+1,none⟩=some p.2:=(b1.cell (World.block_lt_of_cell? w _ c1)).trans c1;have tt:(true&&true)=true:=rfl;clear hpl hk' c1 H0;go_wp2;go_ret2;exact⟨rfl,b1⟩
set_option maxRecDepth 100000 in
set_option maxHeartbeats 1600000 in
theorem getI_out(g B:Nat)(cmpv rv key:Value)(rs:List (Value×Value))(cf:Nat->Int)(k:Nat)(w:World)(hg:Blk w g #[cmpv,rv] 183)(h:w.ownsRow B 185 2 rv rs.length (rowCs rs))(hl:rs.length<=1000000)
 (hf:∀ (tb i:Nat) (p:Value×Value),rs[i]? =some p->∀ W,Below w.heap.size w W->Blk W tb #[.pointer (some ⟨g,0,none⟩)] 138->Calls Tryz.prog 169 #[.agg #[p.1,p.2],key,.pointer (some ⟨tb,0,none⟩)] W fun e w'=>e=.returned (.int .i64 (cf i))∧Below W.heap.size W w')
 (hm:∀ a b,a<=b->b<rs.length->cf b<0->cf a<0) (hk:Fnd rs.length cf k) (h0:¬(k<rs.length∧cf k=0)):
 Calls Tryz.prog 126 #[.pointer (some ⟨g,0,none⟩),key] w fun e w'=>e=.returned (.tuple #[.pointer none,.bool false])∧Below w.heap.size w w':=by
 have hpl:=placeI_any g cmpv rv key rs cf w hg (CRow.of_owns h) hl hf hm;have HK:=Nm.hide hk
 have H0:Hid ((decide (k<rs.length)&&decide (cf k=0))=false):=by
  show _=_
  rw [Bool.and_eq_false_iff]
  by_cases hx:k<rs.length
  ·exact .inr (decide_eq_false (fun h=>h0 ⟨hx,h⟩))
  ·exact .inl (decide_eq_false hx)
 clear hf hm hk h0 h;go_enter Tryz.func126,Tryz.ntmps126;go_wp2_with fail
 refine hpl.mono ?_;rintro e w1 ⟨k',hk',rfl,b1⟩;obtain rfl:=Fnd.unique HK.out hk';rw [H0.out];clear hpl hk' H0;go_wp2;go_ret2;exact⟨rfl,b1⟩
end Go.Proofs.YtcihkbojmbfmmaaGreatDoor
