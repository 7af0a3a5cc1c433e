import Derived.Test.YthdpacepbbcocaaGreatDlM
set_option linter.unusedVariables false
set_option maxRecDepth 100000
set_option maxHeartbeats 3200000
namespace Go.Proofs.YthdpacepbbcocaaGreat
open Go.RowKit
theorem Gq(B g N i:Nat)(xs:List Rr)(w:World)(hx:xs.length=N)(aU:w.ownsRow B 29 5 (.slice (some ⟨g,0,none⟩) N N) N (bK xs))(hiN:i<N)(hn:N<=1048576):
 Calls Tryz.prog 82 #[.slice (some ⟨g,0,none⟩) N N,.int .i64 (i:Int),.int .i64 (N:Int)] w fun e w'=>e=.returned (.slice (some ⟨g,0,none⟩) i N)∧w'.ownsRow B 29 5 (.slice (some ⟨g,0,none⟩) i N) (xs.take i).length (bK (xs.take i))∧DI g w w':=by
 obtain⟨i0,hi,iJ,fP,fZ⟩:=info_parts Tryz.GM
 rcases aU.2 with⟨e0,_⟩|⟨g',cap',cur,e0,hBg,hh,YX,zM,oZ,QQ⟩
 ·cases e0
 simp only [iG,mP,Addr.mk.injEq,true_and,and_true] at e0;obtain⟨rfl,rfl⟩:=e0;have hblk:bG w g cur 29:=hh
 have hrv:∀ t:Nat,t<N*5->cur[t]? =(bK xs)[t]? :=by
  intro t ht;rw [<- QQ,List.getElem?_take_of_lt ht];simp
 obtain⟨vs,hvl,Gj⟩:=MN w.drew g (i*5) (N-i) (N-i) (by omega) (fun t ht=>by show(w.cell? _).isSome=true;rw [aA hblk];rw [Array.getElem?_eq_getElem (by omega)];rfl) (fun t _=>aG (aB hblk (aK _ _).drew) _);obtain⟨cs2,ZH,sz2,aGd,_⟩:=PS vs (i*5) w.drew cur (aB hblk (aK _ _).drew) (by rw [hvl];omega);have O2:=KH vs (i*5) w w.drew (DI.refl g w).drew
 have HO:Hid ((w.drew.setCells g (i*5) vs).ownsRow B 29 5 (.slice (some ⟨g,0,none⟩) i N) (xs.take i).length (bK (xs.take i))):=by
  have hlen:(xs.take i).length=i:=by rw [List.length_take];omega
  show World.ownsRow _ _ _ _ _ _ _
  rw [hlen];refine⟨by rw [pU,hlen],.inr ⟨g,N,cs2,rfl,hBg,ZH,by omega,zM,by omega,?_⟩⟩;apply List.ext_getElem?;intro t
  by_cases ht:t<i*5
  ·rw [List.getElem?_take_of_lt ht];rw [show cs2.toList[t]? =cs2[t]? by simp,aGd t (.inl ht),hrv t (by omega)];have e2:bK xs=bK (xs.take i)++bK (xs.drop i):=by rw [<- jX,List.take_append_drop]
   rw [e2,List.getElem?_append_left (by rw [pU,hlen];omega)]
  rw [List.getElem?_eq_none (by simp;omega),List.getElem?_eq_none (by rw [pU,hlen];omega)]
 have HC:=Nm.aF Gj;have HO2:=Nm.aF O2;have n1:(0:Int)<=(i:Int):=by omega
 have n3:(i:Int)<=(N:Int):=by omega
 have n6:((i:Int)==(N:Int))=false:=by simp;omega
 have n7:¬N=i:=by omega
 have n8:(0:Int)<=(N:Int):=by omega
 have n9:¬N=0:=by omega
 have HX:=Nm.aF hx;clear hrv Gj O2 ZH sz2 aGd hvl QQ oZ hblk hh aU YX hx;go_enter Tryz.func82,Tryz.ntmps82;go_wp2;refine EE (S:=fun _=>True) (Ls:=[]) (by kernel_rfl) trivial fun hH=>?_;refine cK (i:=0) (v:=?_) rfl (by kernel_rfl) (by kernel_rfl) (by kernel_rfl) (by kernel_rfl) (fun _ _ _ h=>h) (Or.inl ⟨by rfl,?_⟩) trivial ?_;rotate_left 1
 ·(intro w vH;go_simp;try (with_reducible rfl))
 refine cK (i:=1) (v:=?_) rfl (by kernel_rfl) (by kernel_rfl) (by kernel_rfl) (by kernel_rfl) (fun _ _ _ h=>h) (Or.inl ⟨by rfl,?_⟩) trivial ?_;rotate_left 1
 ·(intro w vH;go_simp;try (with_reducible rfl))
 refine cK (i:=2) (v:=?_) rfl (by kernel_rfl) (by kernel_rfl) (by kernel_rfl) (by kernel_rfl) (fun _ _ _ h=>h) (Or.inl ⟨by rfl,?_⟩) trivial ?_;rotate_left 1
 ·(intro w vH;go_simp;try (with_reducible rfl))
 refine cK (i:=3) (v:=?_) rfl (by kernel_rfl) (by kernel_rfl) (by kernel_rfl) (by kernel_rfl) (fun _ _ _ h=>h) (Or.inl ⟨by rfl,?_⟩) trivial ?_;rotate_left 1
 ·(intro w vH;go_simp;try (with_reducible rfl))
 refine cK (i:=4) (v:=?_) rfl (by kernel_rfl) (by kernel_rfl) (by kernel_rfl) (by kernel_rfl) (fun _ _ _ h=>h) (Or.inl ⟨by rfl,?_⟩) trivial ?_;rotate_left 1
 ·(intro w vH;go_simp;try (with_reducible rfl))
 refine cK (i:=5) (v:=?_) rfl (by kernel_rfl) (by kernel_rfl) (by kernel_rfl) (by kernel_rfl) (fun _ _ _ h=>h) (Or.inl ⟨by rfl,?_⟩) trivial ?_;rotate_left 1
 ·(intro w vH;go_simp;try (with_reducible rfl))
 refine JR (i:=6) (by kernel_rfl) rfl fun K hK'=>?_;refine step_append_room rfl (.tmp 22) (.tmp 25) 30 rfl 29 i0 5 Tryz.underlying30 hi fP g 0 i N rfl ⟨g,0,none⟩ 0 0 [] (by rfl) rfl (fun t u ht=>by simp at ht) (fun u hu=>by simp at hu) (by omega) (fun t ht=>by simp at ht) ?_;refine hK'.out _ _ trivial fun hH=>?_;clear hK' K;refine cK (i:=7) (v:=?_) rfl (by kernel_rfl) (by kernel_rfl) (by kernel_rfl) (by kernel_rfl) (fun _ _ _ h=>h) (Or.inl ⟨by rfl,?_⟩) trivial ?_;rotate_left 1
 ·(intro w vH;go_simp;try (with_reducible rfl))
 refine ED (by kernel_rfl) ?_;clear hH;have e1:∀ o,w.drew.setCells g o []=w.drew:=fun o=>rfl
 rw [e1];go_simp;clear e1;go_upto_region 6 with fail
 go_wp2_with (refine zV rfl (.tmp 31) 30 rfl _ rfl (HC.out _) ?_)
 go_ret;exact⟨rfl,HO.out,HO2.out⟩
