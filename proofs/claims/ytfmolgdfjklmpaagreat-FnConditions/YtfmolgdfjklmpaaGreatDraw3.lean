import Derived.Test.YtfmolgdfjklmpaaGreatJTrD
import Derived.Test.YtfmolgdfjklmpaaGreatJTrM
import Derived.Deep.LoopGhost
namespace Go.Proofs.YtfmolgdfjklmpaaGreat
open Go.RowKit
set_option maxRecDepth 100000 in
set_option maxHeartbeats 1600000 in
theorem l01Name_any(g:Nat)(a:Option Addr)(n cap:Nat)(w:World)(h:Src w g a n cap):
 Calls Tryz.prog 53 #[.pointer (some ⟨g,0,none⟩)] w fun e w'=>∃ s:ByteArray,e=.returned (.string s)∧1<=s.size∧s.size<=1000∧Src w' g a n cap∧w.grownBy w' (some g):=by
 obtain⟨i0,hi,hz0,hz1,hz2⟩:=info_parts Tryz.infoStr;obtain⟨hcode,hglt⟩:=src_code h;go_enter Tryz.func53,Tryz.ntmps53;go_wp2_with fail
 refine(l01Next_any g a n cap 5 _ (src_below h ((Below.refl _ _).alloc (Nat.le_refl _) _)) (by decide)).mono ?_;rintro e w1 ⟨m,rfl,hm0,hm1,hsrc1,hgr1⟩;have hm2:=hm1 (by decide);obtain⟨m,rfl⟩:=Int.eq_ofNat_of_zero_le hm0
 have hrow1:w1.ownsRow w.heap.size 9 1 (.slice (some ⟨w.heap.size,0,none⟩) 0 0) 0 []:=
  (World.ownsRow_made w #[] 0 (Nat.le_refl _) (by decide) rfl).kept hgr1 (.inr (by simp only [Value.ownBlock,ne_eq,Option.some.injEq];omega))
 have hg1:w.grownBy w1 (some g):=grown_step (grown_alloc (World.grownBy.refl _ _) _) hgr1;clear hm1 hgr1 h;go_wp2_with fail
 go_loopw [3,5] (fun v i wr=>∃ (k:Nat) (ls:List ByteArray),k<=m∧i=.int .i64 k∧wr.ownsRow w.heap.size 9 1 v ls.length (ls.map Value.string)∧Nm.wsum ls<=64*k∧ls.length=k∧Src wr g a n cap∧w.grownBy wr (some g))
  (fun _ i _=>m-(intOf i).toNat)
 case atStart=>exact⟨0,[],Nat.zero_le _,rfl,hrow1,by simp [Nm.wsum],rfl,hsrc1,hg1⟩
 case round=>
  obtain⟨k,ls,hk,rfl,hown,hws,hlk,hsrc,hgr⟩:=hrel;have hsz:=hgr.size;clear hrow1 hsrc1 hg1;have HLK:=Nm.hide hlk;clear hlk
  by_cases hlt:k<m
  ·go_wp2_with (first|(go_at_call 101;refine(l01Label_any g a n cap _ hsrc).mono ?_;rintro e w3 ⟨x,rfl,hx,hsrc3,hgr3⟩;have hown3:=hown.kept hgr3 (row_src hown hsrc (by decide));have hg3:=grown_step hgr hgr3;have hsz3:=hg3.size)|(at_builtin;refine wpList_append_own _ rfl (.tmp 15) (.tmp 18) 46 rfl w.heap.size 9 i0 (.string ByteArray.empty) 1 16 Tryz.underlying46 hi hz0 hz1 hz2 rfl (by decide) _ _ _ rfl (hown3.alloc _) ⟨w3.heap.size,0,none⟩ 1 1 [.string x] rfl rfl (cell_one_new _ _ _) (Nm.one_cell _ rfl) (by have:=HLK.out;unfold maxLen;omega) (by have:=HLK.out;omega) (by simp;omega) ?_;intro vb wb hown4 hgrow4 hnl4;clear hnl4;have R:=str_step hown3 hsrc3 hg3 hglt hcode hown4 hgrow4;clear hown4 hgrow4))
   go_roundw
   case rel=>exact⟨k+1,_,by omega,by go_num,R.1,by rw [wsum_snoc];omega,by have:=HLK.out;simp;omega,R.2.1,R.2.2⟩
   case measure=>simp [intOf];omega
  ·have hke:k=m:=by omega
   subst hke;go_wp2_with fail
   refine(l01Next_any g a n cap 3 _ hsrc (by decide)).mono ?_;rintro e w2 ⟨q,rfl,hq0,hq1,hsrc2,hgr2⟩;have hown2:=hown.kept hgr2 (row_src hown hsrc (by decide));have hg2:=grown_step hgr hgr2;have hsz2:=hg2.size;have hbl:Nm.wsum ls<=300:=by omega
   clear hq1 hown hsrc hgr hgr2 hlt
   by_cases hq:0<q
   ·go_wp2_with (at_builtin;refine wpList_append_own _ rfl (.tmp 23) (.tmp 24) 46 rfl w.heap.size 9 i0 (.string ByteArray.empty) 1 16 Tryz.underlying46 hi hz0 hz1 hz2 rfl (by decide) _ _ _ rfl (hown2.alloc _) ⟨w2.heap.size,0,none⟩ 1 1 [.string ⟨#[101,120,97,109,112,108,101]⟩] rfl rfl (cell_one_new _ _ _) (Nm.one_cell _ rfl) (by have:=HLK.out;unfold maxLen;omega) (by have:=HLK.out;omega) (by simp;omega) ?_;intro vb wb hown4 hgrow4 hnl4;clear hnl4;have R:=str_step hown2 hsrc2 hg2 hglt hcode hown4 hgrow4;clear hown4 hgrow4)
    have hw9:Nm.wsum (ls++[⟨#[101,120,97,109,112,108,101]⟩])<=400:=by
     rw [wsum_snoc];have:(ByteArray.mk #[101,120,97,109,112,108,101]).size=7:=rfl;omega
    obtain⟨hownC,hsC,hgC⟩:=R;generalize ls++[⟨#[101,120,97,109,112,108,101]⟩]=ls2 at hownC hw9;clear hown2 hsrc2 hg2;refine(l01Next_any g a n cap 20 _ hsC (by decide)).mono ?_;rintro e wn ⟨p,rfl,hp0,hp1,hsN,hgN⟩;have hownN:=hownC.kept hgN (row_src hownC hsC (by decide));have hgNN:=grown_step hgC hgN;have hszN:=hgNN.size;clear hp1 hownC hsC hgC hgN
    by_cases hp:p=0
    ·subst hp;clear hownN;go_wp2_with fail
     go_loopg [3] 300 (fun gh v wr=>∃ ls3:List ByteArray,wr.ownsRow w.heap.size 9 1 v ls3.length (ls3.map Value.string)∧Nm.wsum ls3+gh=300∧Nm.wsum ls3<=252∧Src wr g a n cap∧w.grownBy wr (some g))
     case atStart=>exact⟨[],World.ownsRow_made wn #[] 0 hszN (by decide) rfl,by simp [Nm.wsum],by simp [Nm.wsum],src_below hsN ((Below.refl _ _).alloc (Nat.le_refl _) _),grown_alloc hgNN _⟩
     case round=>
      obtain⟨ls3,hown3,hgh,hw3,hs3,hg3⟩:=hrel;have hl3:=Nm.length_le_wsum ls3;clear hsN hgNN hszN;go_wp2_with fail
      refine(l01Join_any _ ls3 _ (Nm.SRow.of_owns hown3) (by omega)).mono ?_;rintro e wj ⟨rfl,hbj⟩;have hownj:=owns_bel hown3 hbj;have hsj:=src_below hs3 hbj;have hgj:=grown_below hg3 hbj;have hszj:=hgj.size;have hjs:=mkj_size ls3;have hjn:=fun W hq=>l01Join_any u3 ls3 W hq (by omega)
      generalize ByteArray.mk (Nm.joinL ls3).toArray=J at*;clear hown3 hs3 hg3 hbj
      by_cases hlt:Nm.wsum ls3+1<190
      ·have hJ:(J.size:Int)<190:=by omega
       clear hjs hjn;go_wp2_with (first|(go_at_call 26;refine(l01Next_any g a n cap 63 _ hsj (by decide)).mono ?_;rintro e w5 ⟨r,rfl,hr0,hr1,hs5,hg5⟩;have hr2:=hr1 (by decide);have hown5:=hownj.kept hg5 (row_src hownj hsj (by decide));have hgg5:=grown_step hgj hg5;clear hr1)|(go_at_call 99;refine(l01Bytes_any g a n cap _ _ hs5 (by omega) (by omega)).mono ?_;rintro e w6 ⟨x,rfl,hx,hs6,hg6⟩;have hown6:=hown5.kept hg6 (row_src hown5 hs5 (by decide));have hgg6:=grown_step hgg5 hg6;have hsz6:=hgg6.size)|(at_builtin;refine wpList_append_own _ rfl (.tmp 34) (.tmp 40) 46 rfl w.heap.size 9 i0 (.string ByteArray.empty) 1 16 Tryz.underlying46 hi hz0 hz1 hz2 rfl (by decide) _ _ _ rfl (hown6.alloc _) ⟨w6.heap.size,0,none⟩ 1 1 [.string x] rfl rfl (cell_one_new _ _ _) (Nm.one_cell _ rfl) (by unfold maxLen;omega) (by omega) (by simp;omega) ?_;intro vb wb hown7 hgrow7 hnl7;clear hnl7;have R7:=str_step hown6 hs6 hgg6 hglt hcode hown7 hgrow7;clear hown7 hgrow7))
       have hsn:=wsum_snoc ls3 x
       go_roundg (300-Nm.wsum (ls3++[x]))
       case measure=>omega
       case rel=>exact⟨_,R7.1,by omega,by omega,R7.2.1,R7.2.2⟩
      ·have hJ:(190:Int)<=(J.size:Int):=by omega
       have hJ2:(J.size:Int)<=253:=by omega
       go_wp2_with fail
       refine(hjn _ (Nm.SRow.of_owns hownj)).mono ?_;rintro e wk ⟨rfl,hbk⟩;have hownk:=owns_bel hownj hbk;have hsk:=src_below hsj hbk;have hgk:=grown_below hgj hbk;have hszk:=hgk.size;clear hownj hsj hgj hbk
       by_cases hroom:J.size<=253∧191<=J.size
       ·have r1:(0:Int)<254-(J.size:Int):=by omega
        have r2:254-(J.size:Int)<=63:=by omega
        have r1':(0:Int)<255-(J.size:Int)-1:=by omega
        have r2':255-(J.size:Int)-1<=63:=by omega
        go_wp2_with (first|(go_at_call 99;refine(l01Bytes_any g a n cap _ _ hsk (by omega) (by omega)).mono ?_;rintro e w6 ⟨x,rfl,hx,hs6,hg6⟩;have hown6:=hownk.kept hg6 (row_src hownk hsk (by decide));have hgg6:=grown_step hgk hg6;have hsz6:=hgg6.size)|(at_builtin;refine wpList_append_own _ rfl (.tmp 53) (.tmp 57) 46 rfl w.heap.size 9 i0 (.string ByteArray.empty) 1 16 Tryz.underlying46 hi hz0 hz1 hz2 rfl (by decide) _ _ _ rfl (hown6.alloc _) ⟨w6.heap.size,0,none⟩ 1 1 [.string x] rfl rfl (cell_one_new _ _ _) (Nm.one_cell _ rfl) (by unfold maxLen;omega) (by omega) (by simp;omega) ?_;intro vb wb hown7 hgrow7 hnl7;clear hnl7;have R7:=str_step hown6 hs6 hgg6 hglt hcode hown7 hgrow7;clear hown7 hgrow7))
        obtain⟨hown8,hs8,hg8⟩:=R7;have hsn:=wsum_snoc ls3 x;have hj8:=mkj_size (ls3++[x]);refine(l01Join_any _ (ls3++[x]) _ (Nm.SRow.of_owns hown8) (by omega)).mono ?_;rintro e w9 ⟨rfl,hb9⟩;have hown9:=owns_bel hown8 hb9;have hs9:=src_below hs8 hb9;have hg9:=grown_below hg8 hb9;have hjn9:=fun V W hq=>l01Join_any V (ls3++[x]) W hq (by omega)
        generalize ByteArray.mk (Nm.joinL (ls3++[x])).toArray=J8 at*;have hJ8:(J8.size:Int)<=255:=by omega
        have HJ8:Hid (1<=J8.size∧J8.size<=1000):=by show _∧_;omega
        clear hj8 hjs;go_wp2_with fail
        refine(hjn9 _ _ (Nm.SRow.of_owns hown9)).mono ?_;rintro e w10 ⟨rfl,hb10⟩;go_wp2;go_ret;exact⟨_,rfl,HJ8.out.1,HJ8.out.2,src_below hs9 hb10,grown_below hg9 hb10⟩
       ·have r1:(63:Int)<255-(J.size:Int)-1:=by omega
        have r0:(0:Int)<255-(J.size:Int)-1:=by omega
        have r2:decide (255-(J.size:Int)-1<=63)=false:=by simp;omega
        go_wp2_with fail
        refine(hjn _ (Nm.SRow.of_owns hownk)).mono ?_;rintro e w9 ⟨rfl,hb9⟩;have hown9:=owns_bel hownk hb9;have hs9:=src_below hsk hb9;have hg9:=grown_below hgk hb9;have hJ8:(J.size:Int)<=255:=by omega
        have HJ8:Hid (1<=J.size∧J.size<=1000):=by show _∧_;omega
        clear hjs;go_wp2_with fail
        refine(hjn _ (Nm.SRow.of_owns hown9)).mono ?_;rintro e w10 ⟨rfl,hb10⟩;go_wp2;go_ret;exact⟨_,rfl,HJ8.out.1,HJ8.out.2,src_below hs9 hb10,grown_below hg9 hb10⟩
    ·have hp':(p==0)=false:=by rw [beq_eq_false_iff_ne];exact hp
     go_wp2_with fail
     refine(l01Join_any _ ls2 _ (Nm.SRow.of_owns hownN) (by omega)).mono ?_;rintro e wz ⟨rfl,hbz⟩;have hjz:=mkj_size ls2;generalize ByteArray.mk (Nm.joinL ls2).toArray=J at*;have HJ8:Hid (1<=J.size∧J.size<=1000):=by show _∧_;omega
     clear hjz;go_wp2;go_ret;exact⟨_,rfl,HJ8.out.1,HJ8.out.2,src_below hsN hbz,grown_below hgNN hbz⟩
   ·have hq':q<=0:=by omega
    have hw9:Nm.wsum ls<=400:=by omega
    have hownC:=hown2;have hsC:=hsrc2;have hgC:=hg2;clear hown2 hsrc2 hg2;go_wp2_with fail
    refine(l01Next_any g a n cap 20 _ hsC (by decide)).mono ?_;rintro e wn ⟨p,rfl,hp0,hp1,hsN,hgN⟩;have hownN:=hownC.kept hgN (row_src hownC hsC (by decide));have hgNN:=grown_step hgC hgN;have hszN:=hgNN.size;clear hp1 hownC hsC hgC hgN
    by_cases hp:p=0
    ·subst hp;clear hownN;go_wp2_with fail
     go_loopg [3] 300 (fun gh v wr=>∃ ls3:List ByteArray,wr.ownsRow w.heap.size 9 1 v ls3.length (ls3.map Value.string)∧Nm.wsum ls3+gh=300∧Nm.wsum ls3<=252∧Src wr g a n cap∧w.grownBy wr (some g))
     case atStart=>exact⟨[],World.ownsRow_made wn #[] 0 hszN (by decide) rfl,by simp [Nm.wsum],by simp [Nm.wsum],src_below hsN ((Below.refl _ _).alloc (Nat.le_refl _) _),grown_alloc hgNN _⟩
     case round=>
      obtain⟨ls3,hown3,hgh,hw3,hs3,hg3⟩:=hrel;have hl3:=Nm.length_le_wsum ls3;clear hsN hgNN hszN;go_wp2_with fail
      refine(l01Join_any _ ls3 _ (Nm.SRow.of_owns hown3) (by omega)).mono ?_;rintro e wj ⟨rfl,hbj⟩;have hownj:=owns_bel hown3 hbj;have hsj:=src_below hs3 hbj;have hgj:=grown_below hg3 hbj;have hszj:=hgj.size;have hjs:=mkj_size ls3;have hjn:=fun W hq=>l01Join_any u3 ls3 W hq (by omega)
      generalize ByteArray.mk (Nm.joinL ls3).toArray=J at*;clear hown3 hs3 hg3 hbj
      by_cases hlt:Nm.wsum ls3+1<190
      ·have hJ:(J.size:Int)<190:=by omega
       clear hjs hjn;go_wp2_with (first|(go_at_call 26;refine(l01Next_any g a n cap 63 _ hsj (by decide)).mono ?_;rintro e w5 ⟨r,rfl,hr0,hr1,hs5,hg5⟩;have hr2:=hr1 (by decide);have hown5:=hownj.kept hg5 (row_src hownj hsj (by decide));have hgg5:=grown_step hgj hg5;clear hr1)|(go_at_call 99;refine(l01Bytes_any g a n cap _ _ hs5 (by omega) (by omega)).mono ?_;rintro e w6 ⟨x,rfl,hx,hs6,hg6⟩;have hown6:=hown5.kept hg6 (row_src hown5 hs5 (by decide));have hgg6:=grown_step hgg5 hg6;have hsz6:=hgg6.size)|(at_builtin;refine wpList_append_own _ rfl (.tmp 34) (.tmp 40) 46 rfl w.heap.size 9 i0 (.string ByteArray.empty) 1 16 Tryz.underlying46 hi hz0 hz1 hz2 rfl (by decide) _ _ _ rfl (hown6.alloc _) ⟨w6.heap.size,0,none⟩ 1 1 [.string x] rfl rfl (cell_one_new _ _ _) (Nm.one_cell _ rfl) (by unfold maxLen;omega) (by omega) (by simp;omega) ?_;intro vb wb hown7 hgrow7 hnl7;clear hnl7;have R7:=str_step hown6 hs6 hgg6 hglt hcode hown7 hgrow7;clear hown7 hgrow7))
       have hsn:=wsum_snoc ls3 x
       go_roundg (300-Nm.wsum (ls3++[x]))
       case measure=>omega
       case rel=>exact⟨_,R7.1,by omega,by omega,R7.2.1,R7.2.2⟩
      ·have hJ:(190:Int)<=(J.size:Int):=by omega
       have hJ2:(J.size:Int)<=253:=by omega
       go_wp2_with fail
       refine(hjn _ (Nm.SRow.of_owns hownj)).mono ?_;rintro e wk ⟨rfl,hbk⟩;have hownk:=owns_bel hownj hbk;have hsk:=src_below hsj hbk;have hgk:=grown_below hgj hbk;have hszk:=hgk.size;clear hownj hsj hgj hbk
       by_cases hroom:J.size<=253∧191<=J.size
       ·have r1:(0:Int)<254-(J.size:Int):=by omega
        have r2:254-(J.size:Int)<=63:=by omega
        have r1':(0:Int)<255-(J.size:Int)-1:=by omega
        have r2':255-(J.size:Int)-1<=63:=by omega
        go_wp2_with (first|(go_at_call 99;refine(l01Bytes_any g a n cap _ _ hsk (by omega) (by omega)).mono ?_;rintro e w6 ⟨x,rfl,hx,hs6,hg6⟩;have hown6:=hownk.kept hg6 (row_src hownk hsk (by decide));have hgg6:=grown_step hgk hg6;have hsz6:=hgg6.size)|(at_builtin;refine wpList_append_own _ rfl (.tmp 53) (.tmp 57) 46 rfl w.heap.size 9 i0 (.string ByteArray.empty) 1 16 Tryz.underlying46 hi hz0 hz1 hz2 rfl (by decide) _ _ _ rfl (hown6.alloc _) ⟨w6.heap.size,0,none⟩ 1 1 [.string x] rfl rfl (cell_one_new _ _ _) (Nm.one_cell _ rfl) (by unfold maxLen;omega) (by omega) (by simp;omega) ?_;intro vb wb hown7 hgrow7 hnl7;clear hnl7;have R7:=str_step hown6 hs6 hgg6 hglt hcode hown7 hgrow7;clear hown7 hgrow7))
        obtain⟨hown8,hs8,hg8⟩:=R7;have hsn:=wsum_snoc ls3 x;have hj8:=mkj_size (ls3++[x]);refine(l01Join_any _ (ls3++[x]) _ (Nm.SRow.of_owns hown8) (by omega)).mono ?_;rintro e w9 ⟨rfl,hb9⟩;have hown9:=owns_bel hown8 hb9;have hs9:=src_below hs8 hb9;have hg9:=grown_below hg8 hb9;have hjn9:=fun V W hq=>l01Join_any V (ls3++[x]) W hq (by omega)
        generalize ByteArray.mk (Nm.joinL (ls3++[x])).toArray=J8 at*;have hJ8:(J8.size:Int)<=255:=by omega
        have HJ8:Hid (1<=J8.size∧J8.size<=1000):=by show _∧_;omega
        clear hj8 hjs;go_wp2_with fail
        refine(hjn9 _ _ (Nm.SRow.of_owns hown9)).mono ?_;rintro e w10 ⟨rfl,hb10⟩;go_wp2;go_ret;exact⟨_,rfl,HJ8.out.1,HJ8.out.2,src_below hs9 hb10,grown_below hg9 hb10⟩
       ·have r1:(63:Int)<255-(J.size:Int)-1:=by omega
        have r0:(0:Int)<255-(J.size:Int)-1:=by omega
        have r2:decide (255-(J.size:Int)-1<=63)=false:=by simp;omega
        go_wp2_with fail
        refine(hjn _ (Nm.SRow.of_owns hownk)).mono ?_;rintro e w9 ⟨rfl,hb9⟩;have hown9:=owns_bel hownk hb9;have hs9:=src_below hsk hb9;have hg9:=grown_below hgk hb9;have hJ8:(J.size:Int)<=255:=by omega
        have HJ8:Hid (1<=J.size∧J.size<=1000):=by show _∧_;omega
        clear hjs;go_wp2_with fail
        refine(hjn _ (Nm.SRow.of_owns hown9)).mono ?_;rintro e w10 ⟨rfl,hb10⟩;go_wp2;go_ret;exact⟨_,rfl,HJ8.out.1,HJ8.out.2,src_below hs9 hb10,grown_below hg9 hb10⟩
    ·have hp':(p==0)=false:=by rw [beq_eq_false_iff_ne];exact hp
     go_wp2_with fail
     refine(l01Join_any _ ls _ (Nm.SRow.of_owns hownN) (by omega)).mono ?_;rintro e wz ⟨rfl,hbz⟩;have hjz:=mkj_size ls;generalize ByteArray.mk (Nm.joinL ls).toArray=J at*;have HJ8:Hid (1<=J.size∧J.size<=1000):=by show _∧_;omega
     clear hjz;go_wp2;go_ret;exact⟨_,rfl,HJ8.out.1,HJ8.out.2,src_below hsN hbz,grown_below hgNN hbz⟩
end Go.Proofs.YtfmolgdfjklmpaaGreat
