import Derived.Test.YtgilkakllagbnaaGreatJOwnT
import Derived.Test.YtgilkakllagbnaaGreatJMath
import Derived.Test.YtgilkakllagbnaaGreatJClone
import Derived.Test.YtgilkakllagbnaaGreatData3
import Derived.Test.YtgilkakllagbnaaGreatJZnT
import Derived.RegionTactic
import Derived.BigRegion
import Derived.Deep.RegionHeld3
import Derived.Test.YtgilkakllagbnaaGreatJZnM
import Derived.Test.YtgilkakllagbnaaGreatJRrM
namespace Go.Proofs.YtgilkakllagbnaaGreat
open Go.RowKit
def okForm(f:ByteArray):Prop:=f.size<=100∧∀ k,(h:k<f.size)->f[k]=110∨f[k]=98∨f[k]=116∨f[k]=115∨f[k]=99∨f[k]=109∨f[k]=42
set_option maxRecDepth 100000 in
set_option maxHeartbeats 40000000 in
theorem l02Parts_any(f d0:ByteArray)(w:World)(hf:okForm f)(hd:d0.size<=65535):
 Calls Tryz.prog 101 #[.string f,.string d0] w fun e w'=>∃ v,e=.returned (.tuple #[v,.bool (Dt.parts (f.data.toList.map Dt.letP) d0).isSome])∧
  (∀ ps,Dt.parts (f.data.toList.map Dt.letP) d0=some ps->w'.ownsRow w.heap.size 9 1 v ps.length (ps.map Value.string))∧Below w.heap.size w w':=by
 obtain⟨i0,hi,hz0,hz1,hz2⟩:=info_parts Tryz.infoStr;obtain⟨hf1,hf2⟩:=hf;have hst:=Dt.pat_start (f.data.toList.map Dt.letP) d0;go_enter Tryz.func101,Tryz.ntmps101;go_wp2
 go_loopw [6,1,7] (fun v x i wr=>∃ (k:Nat) (ps:List ByteArray) (d:ByteArray),k<=f.size∧i=.int .i64 k∧x=.string d∧d.size<=d0.size∧ps.length=k∧Dt.PAt (f.data.toList.map Dt.letP) d0 ps ((f.data.toList.map Dt.letP).drop k) d∧wr.ownsRow w.heap.size 9 1 v ps.length (ps.map Value.string)∧Below w.heap.size w wr)
  (fun _ _ i _=>f.size-(intOf i).toNat)
 case atStart=>exact⟨0,[],d0,Nat.zero_le _,rfl,rfl,Nat.le_refl _,rfl,by simpa using hst,World.ownsRow_made w #[] 0 (Nat.le_refl _) (by decide) rfl,(Below.refl _ _).alloc (Nat.le_refl _) _⟩
 case round=>
  obtain⟨k,ps,d,hk,rfl,rfl,hdz,hpl,hat,hown,hbel⟩:=hrel;have hsz:=hbel.size;have hpb:ps.length<=100:=by omega
  have HPL:=Nm.hide hpl;clear hst hpl
  by_cases hlt:k<f.size
  ·have hlt':(k:Int)<(f.size:Int):=by omega
   rw [Dt.drop_let hlt] at hat
   rcases hf2 k hlt with hc|hc|hc|hc|hc|hc|hc
   ·skip
    rw [hc] at hat;have hv:f[k].toNat=110:=by rw [hc];rfl
    have q1:((f[k].toNat:Int)==110)=true:=by rw [beq_iff_eq];omega
    have q8:((f[k].toNat:Int) != 109)=true:=by rw [bne_iff_ne];omega
    have q9:((f[k].toNat:Int) != 42)=true:=by rw [bne_iff_ne];omega
    clear hv hc hf2;have hcall:=l02NameAt_any d
    by_cases h0:(Dt.nameAtS d).size=0
    ·have HN:=Nm.hide (Dt.pat_none hat (by show Dt.sz .nm d=none;rw [Dt.sz,if_pos h0]));obtain⟨e1,e2⟩:=beq_empty h0;clear hat;go_wp2_with (go_at_call 123;refine(hcall _).mono ?_;rintro e w2 ⟨rfl,hw⟩;obtain rfl:wr=w2:=hw.symm;clear hw)
     go_ret2;rw [HN.out];exact⟨_,rfl,(fun ps h=>by cases h),hbel⟩
    ·have HN:=Nm.hide (Dt.pat_step hat (n:=(Dt.nameAtS d).size) (by show Dt.sz .nm d=some _;rw [Dt.sz,if_neg h0]) (Dt.name_ext d h0));obtain⟨e1,e2⟩:=not_empty (s:=Dt.nameAtS d) (by omega);have hle:=Dt.name_le d;have hle':((Dt.nameAtS d).size:Int)<=(d.size:Int):=by omega
     clear hat h0;generalize Dt.nameAtS d=P at*;go_wp2_with (first|(go_at_call 123;refine(hcall _).mono ?_;rintro e w2 ⟨rfl,hw⟩;obtain rfl:wr=w2:=hw.symm;clear hw)|(at_builtin;refine wpList_append_own _ rfl (.tmp 96) (.tmp 98) 78 rfl w.heap.size 9 i0 (.string ByteArray.empty) 1 16 Tryz.underlying78 hi hz0 hz1 hz2 rfl (by decide) _ _ _ rfl (hown.alloc _) ⟨wr.heap.size,0,none⟩ 1 1 [.string P] rfl rfl (cell_new1 _ _ _) (Nm.one_cell _ rfl) (by unfold maxLen;omega) (by omega) (by simp;omega) ?_))
     ·intro v' w1 hown' hgrow _;have R:=own_step hsz hown hbel _ hown' hgrow;clear hown' hgrow hown hbel;go_wp2;go_roundw
      case rel=>exact⟨k+1,_,_,by omega,by go_num,rfl,by simp<;>omega,by have:=HPL.out;simp;omega,HN.out,R.1,R.2⟩
      case measure=>simp [intOf];omega
   ·skip
    rw [hc] at hat;have hv:f[k].toNat=98:=by rw [hc];rfl
    have q1:((f[k].toNat:Int)==110)=false:=by rw [beq_eq_false_iff_ne];omega
    have q2:((f[k].toNat:Int)==98)=true:=by rw [beq_iff_eq];omega
    have q8:((f[k].toNat:Int) != 109)=true:=by rw [bne_iff_ne];omega
    have q9:((f[k].toNat:Int) != 42)=true:=by rw [bne_iff_ne];omega
    clear hv hc hf2
    by_cases h0:d.size=0
    ·have HN:=Nm.hide (Dt.pat_none hat (by show Dt.sz (.bs 1) d=none;rw [Dt.sz,if_neg (by omega)]));obtain⟨e1,e2⟩:=beq_empty h0;clear hat;go_wp2;go_ret2;rw [HN.out];exact⟨_,rfl,(fun ps h=>by cases h),hbel⟩
    ·have hs1:(d.extract 0 1).size=1:=by simp;omega
     have HN:=Nm.hide (Dt.pat_step hat (n:=1) (x:=d.extract 0 1) (by show Dt.sz (.bs 1) d=some _;rw [Dt.sz,if_pos (by omega)]) rfl);rw [hs1] at HN;obtain⟨e1,e2⟩:=not_empty (s:=d) (by omega);obtain⟨e3,e4⟩:=not_empty (s:=d.extract 0 1) (by omega);have hle':(1:Int)<=(d.size:Int):=by omega
     have hle:1<=d.size:=by omega
     clear hat h0;go_wp2_with (first|(fail)|(at_builtin;refine wpList_append_own _ rfl (.tmp 96) (.tmp 98) 78 rfl w.heap.size 9 i0 (.string ByteArray.empty) 1 16 Tryz.underlying78 hi hz0 hz1 hz2 rfl (by decide) _ _ _ rfl (hown.alloc _) ⟨wr.heap.size,0,none⟩ 1 1 [.string (d.extract 0 1)] rfl rfl (cell_new1 _ _ _) (Nm.one_cell _ rfl) (by unfold maxLen;omega) (by omega) (by simp;omega) ?_))
     ·intro v' w1 hown' hgrow _;have R:=own_step hsz hown hbel _ hown' hgrow;clear hown' hgrow hown hbel;go_wp2;go_roundw
      case rel=>exact⟨k+1,_,_,by omega,by go_num,rfl,by simp<;>omega,by have:=HPL.out;simp;omega,HN.out,R.1,R.2⟩
      case measure=>simp [intOf];omega
   ·skip
    rw [hc] at hat;have hv:f[k].toNat=116:=by rw [hc];rfl
    have q1:((f[k].toNat:Int)==110)=false:=by rw [beq_eq_false_iff_ne];omega
    have q2:((f[k].toNat:Int)==98)=false:=by rw [beq_eq_false_iff_ne];omega
    have q3:((f[k].toNat:Int)==116)=true:=by rw [beq_iff_eq];omega
    have q8:((f[k].toNat:Int) != 109)=true:=by rw [bne_iff_ne];omega
    have q9:((f[k].toNat:Int) != 42)=true:=by rw [bne_iff_ne];omega
    clear hv hc hf2;have hcall:=fun w=>l02Text_any d w (by unfold maxLen;omega)
    by_cases h0:(Dt.txtS d).size=0
    ·have HN:=Nm.hide (Dt.pat_none hat (by show Dt.sz .tx d=none;rw [Dt.sz,if_pos h0]));obtain⟨e1,e2⟩:=beq_empty h0;clear hat;go_wp2_with (go_at_call 124;refine(hcall _).mono ?_;rintro e w2 ⟨rfl,hw⟩;obtain rfl:wr=w2:=hw.symm;clear hw)
     go_ret2;rw [HN.out];exact⟨_,rfl,(fun ps h=>by cases h),hbel⟩
    ·have HN:=Nm.hide (Dt.pat_step hat (n:=(Dt.txtS d).size) (by show Dt.sz .tx d=some _;rw [Dt.sz,if_neg h0]) (Dt.txt_ext d));obtain⟨e1,e2⟩:=not_empty (s:=Dt.txtS d) (by omega);have hle:=Dt.txt_le d;have hle':((Dt.txtS d).size:Int)<=(d.size:Int):=by omega
     clear hat h0;generalize Dt.txtS d=P at*;go_wp2_with (first|(go_at_call 124;refine(hcall _).mono ?_;rintro e w2 ⟨rfl,hw⟩;obtain rfl:wr=w2:=hw.symm;clear hw)|(at_builtin;refine wpList_append_own _ rfl (.tmp 96) (.tmp 98) 78 rfl w.heap.size 9 i0 (.string ByteArray.empty) 1 16 Tryz.underlying78 hi hz0 hz1 hz2 rfl (by decide) _ _ _ rfl (hown.alloc _) ⟨wr.heap.size,0,none⟩ 1 1 [.string P] rfl rfl (cell_new1 _ _ _) (Nm.one_cell _ rfl) (by unfold maxLen;omega) (by omega) (by simp;omega) ?_))
     ·intro v' w1 hown' hgrow _;have R:=own_step hsz hown hbel _ hown' hgrow;clear hown' hgrow hown hbel;go_wp2;go_roundw
      case rel=>exact⟨k+1,_,_,by omega,by go_num,rfl,by simp<;>omega,by have:=HPL.out;simp;omega,HN.out,R.1,R.2⟩
      case measure=>simp [intOf];omega
   ·skip
    rw [hc] at hat;have hv:f[k].toNat=115:=by rw [hc];rfl
    have q1:((f[k].toNat:Int)==110)=false:=by rw [beq_eq_false_iff_ne];omega
    have q2:((f[k].toNat:Int)==98)=false:=by rw [beq_eq_false_iff_ne];omega
    have q3:((f[k].toNat:Int)==116)=false:=by rw [beq_eq_false_iff_ne];omega
    have q4:((f[k].toNat:Int)==115)=true:=by rw [beq_iff_eq];omega
    have q8:((f[k].toNat:Int) != 109)=true:=by rw [bne_iff_ne];omega
    have q9:((f[k].toNat:Int) != 42)=true:=by rw [bne_iff_ne];omega
    clear hv hc hf2;have htst:=Dt.tat_start d;go_wp2
    go_loop [8] (fun v=>∃ p,v=.string p∧Dt.TAt d p) (fun v=>match v with|.string p=>d.size-p.size|_=>0)
    case atStart=>exact⟨_,rfl,htst⟩
    case round=>
     obtain⟨p,rfl,ht⟩:=hrel;clear htst;have hple:=ht.1;have hple':(p.size:Int)<=(d.size:Int):=by omega
     have hcall:=fun w=>l02Text_any (d.extract p.size d.size) w (by unfold maxLen;simp;omega)
     by_cases h0:(Dt.txtS (d.extract p.size d.size)).size=0
     ·obtain⟨e1,e2⟩:=beq_empty h0;have hts:=Dt.tat_end ht h0
      by_cases hp0:p.size=0
      ·have HN:=Nm.hide (Dt.pat_none hat (by show Dt.sz .txs d=none;rw [Dt.sz,if_pos (by omega)]));obtain⟨e3,e4⟩:=beq_empty hp0;clear hat ht h0 hts hp0;go_wp2_with (go_at_call 124;refine(hcall _).mono ?_;rintro e w2 ⟨rfl,hw⟩;obtain rfl:wr=w2:=hw.symm;clear hw)
       go_ret2;rw [HN.out];exact⟨_,rfl,(fun ps h=>by cases h),hbel⟩
      ·have HN:=Nm.hide (Dt.pat_step hat (n:=p.size) (by show Dt.sz .txs d=some _;rw [Dt.sz,if_neg (by omega),hts]) ht.2.1);obtain⟨e3,e4⟩:=not_empty (s:=p) (by omega);clear hat ht h0 hts hp0;go_wp2_with (first|(go_at_call 124;refine(hcall _).mono ?_;rintro e w2 ⟨rfl,hw⟩;obtain rfl:wr=w2:=hw.symm;clear hw)|(at_builtin;refine wpList_append_own _ rfl (.tmp 96) (.tmp 98) 78 rfl w.heap.size 9 i0 (.string ByteArray.empty) 1 16 Tryz.underlying78 hi hz0 hz1 hz2 rfl (by decide) _ _ _ rfl (hown.alloc _) ⟨wr.heap.size,0,none⟩ 1 1 [.string p] rfl rfl (cell_new1 _ _ _) (Nm.one_cell _ rfl) (by unfold maxLen;omega) (by omega) (by simp;omega) ?_))
       ·intro v' w1 hown' hgrow _;have R:=own_step hsz hown hbel _ hown' hgrow;clear hown' hgrow hown hbel;go_wp2;go_roundw
        case rel=>exact⟨k+1,_,_,by omega,by go_num,rfl,by simp<;>omega,by have:=HPL.out;simp;omega,HN.out,R.1,R.2⟩
        case measure=>simp [intOf];omega
     ·obtain⟨e1,e2⟩:=not_empty (s:=Dt.txtS (d.extract p.size d.size)) (by omega);have HT:=Nm.hide (Dt.tat_step ht h0);have hle:=Dt.txt_le (d.extract p.size d.size);have hdz2:(d.extract p.size d.size).size=d.size-p.size:=by simp
      rw [hdz2] at hle;clear ht hat;generalize Dt.txtS (d.extract p.size d.size)=T at*;go_wp2_with (go_at_call 124;refine(hcall _).mono ?_;rintro e w2 ⟨rfl,hw⟩;obtain rfl:wr=w2:=hw.symm;clear hw)
      go_round
      case rel=>exact⟨_,rfl,HT.out⟩
      case measure=>simp;omega
   ·skip
    rw [hc] at hat;have hv:f[k].toNat=99:=by rw [hc];rfl
    have q1:((f[k].toNat:Int)==110)=false:=by rw [beq_eq_false_iff_ne];omega
    have q2:((f[k].toNat:Int)==98)=false:=by rw [beq_eq_false_iff_ne];omega
    have q3:((f[k].toNat:Int)==116)=false:=by rw [beq_eq_false_iff_ne];omega
    have q4:((f[k].toNat:Int)==115)=false:=by rw [beq_eq_false_iff_ne];omega
    have q5:((f[k].toNat:Int)==99)=true:=by rw [beq_iff_eq];omega
    have q8:((f[k].toNat:Int) != 109)=true:=by rw [bne_iff_ne];omega
    have q9:((f[k].toNat:Int) != 42)=true:=by rw [bne_iff_ne];omega
    clear hv hc hf2;have hcall:=fun w=>l02Text_any d w (by unfold maxLen;omega)
    have htl:=Dt.txt_le d
    by_cases h0:(Dt.txtS d).size<2
    ·have HN:=Nm.hide (Dt.pat_none hat (by show Dt.sz .tagr d=none;rw [Dt.sz,Dt.tag_short (.inl h0)];rfl));have h0':((Dt.txtS d).size:Int)<2:=by omega
     clear hat;go_wp2_with (go_at_call 124;refine(hcall _).mono ?_;rintro e w2 ⟨rfl,hw⟩;obtain rfl:wr=w2:=hw.symm;clear hw)
     go_ret2;rw [HN.out];exact⟨_,rfl,(fun ps h=>by cases h),hbel⟩
    ·have h0':(2:Int)<=((Dt.txtS d).size:Int):=by omega
     by_cases h1:16<(Dt.txtS d).size
     ·have HN:=Nm.hide (Dt.pat_none hat (by show Dt.sz .tagr d=none;rw [Dt.sz,Dt.tag_short (.inr h1)];rfl));have h1':(16:Int)<((Dt.txtS d).size:Int):=by omega
      clear hat;go_wp2_with (go_at_call 124;refine(hcall _).mono ?_;rintro e w2 ⟨rfl,hw⟩;obtain rfl:wr=w2:=hw.symm;clear hw)
      go_ret2;rw [HN.out];exact⟨_,rfl,(fun ps h=>by cases h),hbel⟩
     ·have h1':((Dt.txtS d).size:Int)<=16:=by omega
      have htb:=fun j (h2:1<=j) (h3:j<(Dt.txtS d).size)=>Dt.tag_bad (d:=d) (k:=j) h2 h3
      have htg:=Dt.tag_good (d:=d) (by omega) (by omega);have hb:Hid (∀ b,Dt.tagB d=b->Dt.sz .tagr d=if b then some d.size else none):=by show ∀ b,_;intro b hb;rw [Dt.sz,hb]
      generalize Dt.txtS d=P at*;go_wp2_with (go_at_call 124;refine(hcall _).mono ?_;rintro e w2 ⟨rfl,hw⟩;obtain rfl:wr=w2:=hw.symm;clear hw)
      go_loop [9] (fun v=>∃ j:Nat,1<=j∧j<=P.size∧v=.int .i64 j∧∀ i,1<=i->i<j->(hi:i<P.size)->Dt.alnumB P[i]=true) (fun v=>P.size-(intOf v).toNat)
      case atStart=>exact⟨1,by omega,by omega,rfl,fun i h1 h2=>by omega⟩
      case round=>
       obtain⟨j,hj1,hj2,rfl,hj⟩:=hrel
       by_cases hjl:j<P.size
       ·have hjl':(j:Int)<(P.size:Int):=by omega
        have hal:=l02Alnum_any P[j]
        cases hA:Dt.alnumB P[j] with
        |false=>
         have HN:=Nm.hide (Dt.pat_none hat (by show Dt.sz .tagr d=none;rw [hb.out _ (htb j hj1 hjl hA)];rfl));rw [hA] at hal;clear hat htb htg hb hj hA;go_wp2_with (go_at_call 125;refine(hal _).mono ?_;rintro e w2 ⟨rfl,hw⟩;obtain rfl:wr=w2:=hw.symm;clear hw)
         go_ret2;rw [HN.out]
         exact⟨_,rfl,(fun ps h=>by cases h),hbel⟩
        |true=>
         have HJ:Hid (∀ i,1<=i->i<j+1->(hi:i<P.size)->Dt.alnumB P[i]=true):=by
          show ∀ i,_
          intro i h1 h2 h3
          by_cases e:i=j
          ·subst e;exact hA
          ·exact hj i h1 (by omega) h3
         rw [hA] at hal;clear hat htb htg hb hj hA;go_wp2_with (go_at_call 125;refine(hal _).mono ?_;rintro e w2 ⟨rfl,hw⟩;obtain rfl:wr=w2:=hw.symm;clear hw)
         go_round
         case rel=>exact⟨j+1,by omega,by omega,by go_num,HJ.out⟩
         case measure=>simp [intOf];omega
       ·have hjl':(P.size:Int)<=(j:Int):=by omega
        have htt:=htg (fun i h1 h2=>hj i h1 (by omega) h2);have HN:=Nm.hide (Dt.pat_step hat (n:=d.size) (by show Dt.sz .tagr d=some _;rw [hb.out _ htt];rfl) (Dt.ext_all d));rw [Dt.ext_none] at HN;obtain⟨e1,e2⟩:=not_empty (s:=d) (by omega);clear hat htb htg hb hj htt;go_wp2_with (first|(fail)|(at_builtin;refine wpList_append_own _ rfl (.tmp 96) (.tmp 98) 78 rfl w.heap.size 9 i0 (.string ByteArray.empty) 1 16 Tryz.underlying78 hi hz0 hz1 hz2 rfl (by decide) _ _ _ rfl (hown.alloc _) ⟨wr.heap.size,0,none⟩ 1 1 [.string d] rfl rfl (cell_new1 _ _ _) (Nm.one_cell _ rfl) (by unfold maxLen;omega) (by omega) (by simp;omega) ?_))
        ·intro v' w1 hown' hgrow _;have R:=own_step hsz hown hbel _ hown' hgrow;clear hown' hgrow hown hbel;go_wp2;go_roundw
         case rel=>exact⟨k+1,_,_,by omega,by go_num,rfl,by simp<;>omega,by have:=HPL.out;simp;omega,HN.out,R.1,R.2⟩
         case measure=>simp [intOf];omega
   ·skip
    rw [hc] at hat;have hv:f[k].toNat=109:=by rw [hc];rfl
    have q1:((f[k].toNat:Int)==110)=false:=by rw [beq_eq_false_iff_ne];omega
    have q2:((f[k].toNat:Int)==98)=false:=by rw [beq_eq_false_iff_ne];omega
    have q3:((f[k].toNat:Int)==116)=false:=by rw [beq_eq_false_iff_ne];omega
    have q4:((f[k].toNat:Int)==115)=false:=by rw [beq_eq_false_iff_ne];omega
    have q5:((f[k].toNat:Int)==99)=false:=by rw [beq_eq_false_iff_ne];omega
    have q6:((f[k].toNat:Int)==109)=true:=by rw [beq_iff_eq];omega
    have q8:((f[k].toNat:Int) != 109)=false:=by rw [bne_eq_false_iff_eq];omega
    have q9:((f[k].toNat:Int) != 42)=true:=by rw [bne_iff_ne];omega
    clear hv hc hf2;have hcall:=fun w=>l02Map_any d w (by unfold maxLen;omega)
    cases hM:mapS d with
    |false=>
     have HN:=Nm.hide (Dt.pat_none hat (by show Dt.sz .mp d=none;rw [Dt.sz,hM];rfl));rw [hM] at hcall;clear hat hM;go_wp2_with (go_at_call 126;refine(hcall _).mono ?_;rintro e w2 ⟨rfl,hw⟩;obtain rfl:wr=w2:=hw.symm;clear hw)
     go_ret2;rw [HN.out]
     exact⟨_,rfl,(fun ps h=>by cases h),hbel⟩
    |true=>
     have HN:=Nm.hide (Dt.pat_step hat (n:=d.size) (by show Dt.sz .mp d=some _;rw [Dt.sz,hM];rfl) (Dt.ext_all d));rw [Dt.ext_none] at HN;rw [hM] at hcall;clear hat hM
     by_cases h0:d.size=0
     ·obtain⟨e1,e2⟩:=beq_empty h0;clear h0;go_wp2_with (first|(go_at_call 126;refine(hcall _).mono ?_;rintro e w2 ⟨rfl,hw⟩;obtain rfl:wr=w2:=hw.symm;clear hw)|(at_builtin;refine wpList_append_own _ rfl (.tmp 96) (.tmp 98) 78 rfl w.heap.size 9 i0 (.string ByteArray.empty) 1 16 Tryz.underlying78 hi hz0 hz1 hz2 rfl (by decide) _ _ _ rfl (hown.alloc _) ⟨wr.heap.size,0,none⟩ 1 1 [.string d] rfl rfl (cell_new1 _ _ _) (Nm.one_cell _ rfl) (by unfold maxLen;omega) (by omega) (by simp;omega) ?_))
      ·intro v' w1 hown' hgrow _;have R:=own_step hsz hown hbel _ hown' hgrow;clear hown' hgrow hown hbel;go_wp2;go_roundw
       case rel=>exact⟨k+1,_,_,by omega,by go_num,rfl,by simp<;>omega,by have:=HPL.out;simp;omega,HN.out,R.1,R.2⟩
       case measure=>simp [intOf];omega
     ·obtain⟨e1,e2⟩:=not_empty (s:=d) (by omega);clear h0;go_wp2_with (first|(go_at_call 126;refine(hcall _).mono ?_;rintro e w2 ⟨rfl,hw⟩;obtain rfl:wr=w2:=hw.symm;clear hw)|(at_builtin;refine wpList_append_own _ rfl (.tmp 96) (.tmp 98) 78 rfl w.heap.size 9 i0 (.string ByteArray.empty) 1 16 Tryz.underlying78 hi hz0 hz1 hz2 rfl (by decide) _ _ _ rfl (hown.alloc _) ⟨wr.heap.size,0,none⟩ 1 1 [.string d] rfl rfl (cell_new1 _ _ _) (Nm.one_cell _ rfl) (by unfold maxLen;omega) (by omega) (by simp;omega) ?_))
      ·intro v' w1 hown' hgrow _;have R:=own_step hsz hown hbel _ hown' hgrow;clear hown' hgrow hown hbel;go_wp2;go_roundw
       case rel=>exact⟨k+1,_,_,by omega,by go_num,rfl,by simp<;>omega,by have:=HPL.out;simp;omega,HN.out,R.1,R.2⟩
       case measure=>simp [intOf];omega
   ·skip
    rw [hc] at hat;have hv:f[k].toNat=42:=by rw [hc];rfl
    have q1:((f[k].toNat:Int)==110)=false:=by rw [beq_eq_false_iff_ne];omega
    have q2:((f[k].toNat:Int)==98)=false:=by rw [beq_eq_false_iff_ne];omega
    have q3:((f[k].toNat:Int)==116)=false:=by rw [beq_eq_false_iff_ne];omega
    have q4:((f[k].toNat:Int)==115)=false:=by rw [beq_eq_false_iff_ne];omega
    have q5:((f[k].toNat:Int)==99)=false:=by rw [beq_eq_false_iff_ne];omega
    have q6:((f[k].toNat:Int)==109)=false:=by rw [beq_eq_false_iff_ne];omega
    have q7:((f[k].toNat:Int)==42)=true:=by rw [beq_iff_eq];omega
    have q8:((f[k].toNat:Int) != 109)=true:=by rw [bne_iff_ne];omega
    have q9:((f[k].toNat:Int) != 42)=false:=by rw [bne_eq_false_iff_eq];omega
    clear hv hc hf2;have HN:=Nm.hide (Dt.pat_step hat (n:=d.size) (by show Dt.sz .rs d=some _;rw [Dt.sz]) (Dt.ext_all d));rw [Dt.ext_none] at HN;clear hat
    by_cases h0:d.size=0
    ·obtain⟨e1,e2⟩:=beq_empty h0;clear h0;go_wp2_with (first|(fail)|(at_builtin;refine wpList_append_own _ rfl (.tmp 96) (.tmp 98) 78 rfl w.heap.size 9 i0 (.string ByteArray.empty) 1 16 Tryz.underlying78 hi hz0 hz1 hz2 rfl (by decide) _ _ _ rfl (hown.alloc _) ⟨wr.heap.size,0,none⟩ 1 1 [.string d] rfl rfl (cell_new1 _ _ _) (Nm.one_cell _ rfl) (by unfold maxLen;omega) (by omega) (by simp;omega) ?_))
     ·intro v' w1 hown' hgrow _;have R:=own_step hsz hown hbel _ hown' hgrow;clear hown' hgrow hown hbel;go_wp2;go_roundw
      case rel=>exact⟨k+1,_,_,by omega,by go_num,rfl,by simp<;>omega,by have:=HPL.out;simp;omega,HN.out,R.1,R.2⟩
      case measure=>simp [intOf];omega
    ·obtain⟨e1,e2⟩:=not_empty (s:=d) (by omega);clear h0;go_wp2_with (first|(fail)|(at_builtin;refine wpList_append_own _ rfl (.tmp 96) (.tmp 98) 78 rfl w.heap.size 9 i0 (.string ByteArray.empty) 1 16 Tryz.underlying78 hi hz0 hz1 hz2 rfl (by decide) _ _ _ rfl (hown.alloc _) ⟨wr.heap.size,0,none⟩ 1 1 [.string d] rfl rfl (cell_new1 _ _ _) (Nm.one_cell _ rfl) (by unfold maxLen;omega) (by omega) (by simp;omega) ?_))
     ·intro v' w1 hown' hgrow _;have R:=own_step hsz hown hbel _ hown' hgrow;clear hown' hgrow hown hbel;go_wp2;go_roundw
      case rel=>exact⟨k+1,_,_,by omega,by go_num,rfl,by simp<;>omega,by have:=HPL.out;simp;omega,HN.out,R.1,R.2⟩
      case measure=>simp [intOf];omega
  ·have hlt':(f.size:Int)<=(k:Int):=by omega
   have hnil:(f.data.toList.map Dt.letP).drop k=[]:=List.drop_eq_nil_of_le (by simp;omega);rw [hnil] at hat;clear hf2 hnil
   by_cases h0:d.size=0
   ·have HN:=Nm.hide (Dt.pat_end hat h0);obtain⟨e1,e2⟩:=beq_empty h0;clear hat h0;go_wp2;go_ret2;rw [HN.out];exact⟨_,rfl,(fun qs h=>by cases h;exact hown),hbel⟩
   ·have HN:=Nm.hide (Dt.pat_left hat h0);obtain⟨e1,e2⟩:=not_empty (s:=d) (by omega);clear hat h0;go_wp2;go_ret2;rw [HN.out];exact⟨_,rfl,(fun ps h=>by cases h),hbel⟩
end Go.Proofs.YtgilkakllagbnaaGreat
namespace Go.Proofs.YtgilkakllagbnaaGreat
open Go.RowKit
theorem okForm_of{f:ByteArray}(h1:f.size<=100)(h2:f.data.toList.all (fun c=>c==110||c==98||c==116||c==115||c==99||c==109||c==42)=true):okForm f:=by
 refine⟨h1,?_⟩;intro k hk;have:=List.all_eq_true.1 h2 f[k] (List.mem_of_getElem? (Nm.get_data hk));simpa [or_assoc] using this
theorem form_ok(t:Int):okForm (Dt.formS t):=by
 unfold Dt.formS
 repeat' split
 all_goals exact okForm_of (by decide) (by decide)
theorem parts_some{t:Int}{d:ByteArray}:(Dt.parts (Dt.specP t) d).isSome=(Dt.spans (Dt.implP t) 0 d).isSome:=by
 rw [<- Dt.forms_agree,Dt.spans_of_parts];simp
set_option maxRecDepth 100000 in
set_option maxHeartbeats 400000 in
theorem specCheckData_any(t:Int)(d:ByteArray)(w:World):
 Calls Tryz.prog 96 #[.int .i64 t,.string d] w fun e w'=>e=.returned (.int .i64 (cutCode t d))∧Below w.heap.size w w':=by
 by_cases ht:t<0∨65535<t
 ·have HC:=Nm.hide (code_type (d:=d) ht)
  by_cases ht0:t<0
  ·clear ht;go_enter Tryz.func96,Tryz.ntmps96;go_wp2;go_ret;rw [HC.out.1];exact⟨rfl,Below.refl _ _⟩
  ·have ht1:65535<t:=by omega
   have ht2:0<=t:=by omega
   clear ht;go_enter Tryz.func96,Tryz.ntmps96;go_wp2;go_ret;rw [HC.out.1];exact⟨rfl,Below.refl _ _⟩
 have ht0:0<=t:=by omega
 have ht1:t<=65535:=by omega
 by_cases hl:65535<d.size
 ·have HC:=Nm.hide (code_long ht hl);have hl':(65535:Int)<(d.size:Int):=by omega
  clear ht;go_enter Tryz.func96,Tryz.ntmps96;go_wp2;go_ret;rw [HC.out.1];exact⟨rfl,Below.refl _ _⟩
 have hl':(d.size:Int)<=65535:=by omega
 have hcall:=fun w=>l02Parts_any (Dt.formS t) d w (form_ok t) (by omega)
 have hform:=l02Form_any t;have hps:=parts_some (t:=t) (d:=d);rw [Dt.specP] at hps;rw [hps] at hcall;generalize Dt.formS t=f at*
 cases hq:Dt.spans (Dt.implP t) 0 d with
 |none=>
  have HC:=Nm.hide (code_none ht hl hq);rw [hq] at hcall;clear ht hl hq hps;go_enter Tryz.func96,Tryz.ntmps96;go_wp2_with (first|(go_at_call 100;refine(hform _).mono ?_;rintro e w1 ⟨rfl,hw⟩;obtain rfl:w=w1:=hw.symm;clear hw)|(go_at_call 101;refine(hcall _).mono ?_;rintro e w2 ⟨v,rfl,_,hbel⟩))
  go_ret;rw [HC.out.1]
  exact⟨rfl,hbel⟩
 |some sp=>
  have HC:=Nm.hide (code_some ht hl hq);rw [hq] at hcall;clear ht hl hq hps;go_enter Tryz.func96,Tryz.ntmps96;go_wp2_with (first|(go_at_call 100;refine(hform _).mono ?_;rintro e w1 ⟨rfl,hw⟩;obtain rfl:w=w1:=hw.symm;clear hw)|(go_at_call 101;refine(hcall _).mono ?_;rintro e w2 ⟨v,rfl,_,hbel⟩))
  go_ret;rw [HC.out.1];exact⟨rfl,hbel⟩
end Go.Proofs.YtgilkakllagbnaaGreat
namespace Go.Proofs.YtgilkakllagbnaaGreat
open Go.RowKit
set_option linter.unusedVariables false
theorem mr_below{w w1 w2:World}{g:Nat}(h:w.grownBy w1 (some g))(h2:Below w1.heap.size w1 w2):w.grownBy w2 (some g):=
 ⟨h2.os.trans h.os,h2.tape.trans h.tape,h2.output.trans h.output,Nat.le_trans h.size h2.size,fun k hk hne=>
  (h2.block k (Nat.lt_of_lt_of_le hk h.size)).trans (h.block k hk hne)⟩
theorem mr_ne(s:ByteArray):(s.toList != s.toList)=false∧(s.toList==s.toList)=true:=by simp
def mkR(k i:Nat):Value:=if i % 5=0∨i % 5=4 then .string (mkS (k+i)) else .int .i64 ((k+i:Nat):Int)
def mkL(f:Nat->Nat->Value)(k m:Nat):List Value:=(List.range m).map (f k)
theorem mkL_len(f:Nat->Nat->Value)(k m:Nat):(mkL f k m).length=m:=by simp [mkL]
theorem mkL_get{f:Nat->Nat->Value}{k m i:Nat}(h:i<m):(mkL f k m)[i]? =some (f k i):=by simp [mkL,h]
theorem mkL_set{f:Nat->Nat->Value}{k m i:Nat}{xs:List Value}(hl:xs.length=m)(h:i<m):
 ((mkL f k m).take i++xs.drop i).set i (f k i)=(mkL f k m).take (i+1)++xs.drop (i+1):=by
 apply List.ext_getElem?;intro j;have h1:((mkL f k m).take i).length=i:=by rw [List.length_take,mkL_len];omega
 have h2:((mkL f k m).take (i+1)).length=i+1:=by rw [List.length_take,mkL_len];omega
 rw [List.getElem?_set]
 by_cases e:i=j
 ·subst e;rw [if_pos rfl,if_pos (by rw [List.length_append,h1,List.length_drop];omega),List.getElem?_append_left (by omega),List.getElem?_take,if_pos (by omega),mkL_get h]
 ·rw [if_neg e]
  by_cases e2:j<i
  ·rw [List.getElem?_append_left (by omega),List.getElem?_append_left (by omega),List.getElem?_take,List.getElem?_take,if_pos e2,if_pos (by omega)]
  ·rw [List.getElem?_append_right (by omega),List.getElem?_append_right (by omega),h1,h2,List.getElem?_drop,List.getElem?_drop];congr 1;omega
theorem mkL_cell{f:Nat->Nat->Value}{k m i j:Nat}{xs:List Value}(hl:xs.length=m)(h:j<m):∃ y,((mkL f k m).take i++xs.drop i)[j]? =some y:=
 ⟨_,List.getElem?_eq_getElem (by rw [List.length_append,List.length_take,mkL_len,List.length_drop];omega)⟩
theorem mkL_done{f:Nat->Nat->Value}{k m:Nat}{xs:List Value}(hl:xs.length=m):(mkL f k m).take m++xs.drop m=mkL f k m:=by
 rw [List.take_of_length_le (by rw [mkL_len];omega),List.drop_eq_nil_of_le (by omega),List.append_nil]
set_option maxRecDepth 100000 in
set_option maxHeartbeats 1600000 in
theorem markRRS_any(v:Value)(n B k:Nat)(xs:List Value)(w:World)(hown:w.ownsRow B 56 5 v n xs)(hB:B<=w.heap.size)(hn:n<=1100000)(hk:k<=100000000):
 Calls Tryz.prog 15 #[v,.int .i64 (k:Int)] w fun e w'=>e=.returned (.int .i64 ((k+n*5:Nat):Int))∧w'.ownsRow B 56 5 v n (mkL mkR k (n*5))∧w.grownBy w' v.ownBlock:=by
 have hxl:xs.length=n*5:=hown.1
 rcases Nat.eq_zero_or_pos n with h0|hpos
 ·subst h0
  obtain⟨a,cap,rfl⟩:∃ a cap,v=.slice a 0 cap:=by
   rcases hown.2 with⟨rfl,_⟩|⟨g,cap,cur,rfl,_⟩
   ·exact⟨_,_,rfl⟩
   ·exact⟨_,_,rfl⟩
  have hx0:xs=[]:=List.length_eq_zero_iff.1 (by omega);subst hx0;go_enter Tryz.func15,Tryz.ntmps15;go_wp2
  go_loop [1,5] (fun t i=>t=.int .i64 (k:Int)∧i=.int .i64 0) (fun _ _=>0)
  case atStart=>exact⟨rfl,rfl⟩
  case round=>
   obtain⟨rfl,rfl⟩:=hrel;go_wp2;go_ret;exact⟨rfl,by simpa [mkL] using hown,World.grownBy.refl _ _⟩
 ·obtain⟨g,cap,rfl,hBg⟩:∃ g cap,v=.slice (some ⟨g,0,none⟩) n cap∧B<=g:=by
   rcases hown.2 with⟨rfl,h0⟩|⟨g,cap,cur,rfl,hb,_⟩
   ·omega
   ·exact⟨g,cap,rfl,hb⟩
  have hglt:=(hown.lt g rfl).2;go_enter Tryz.func15,Tryz.ntmps15;go_wp2
  go_loopw [1,5] (fun t i wr=>∃ j:Nat,j<=n∧i=.int .i64 (j:Int)∧t=.int .i64 ((k+j*5:Nat):Int)∧wr.ownsRow B 56 5 (.slice (some ⟨g,0,none⟩) n cap) n ((mkL mkR k (n*5)).take (j*5)++xs.drop (j*5))∧w.grownBy wr (some g))
   (fun _ i _=>n-(intOf i).toNat)
  case atStart=>exact⟨0,Nat.zero_le _,rfl,rfl,by simpa using hown,World.grownBy.refl _ _⟩
  case round=>
   obtain⟨j,hj,rfl,rfl,hownj,hgr⟩:=hrel;clear hown
   by_cases hlt:j<n
   ·have s0:=mkL_set (f:=mkR) (k:=k) hxl (i:=j*5) (by omega);have s1:=mkL_set (f:=mkR) (k:=k) hxl (i:=j*5+1) (by omega);have s2:=mkL_set (f:=mkR) (k:=k) hxl (i:=j*5+2) (by omega);have s3:=mkL_set (f:=mkR) (k:=k) hxl (i:=j*5+3) (by omega);have s4:=mkL_set (f:=mkR) (k:=k) hxl (i:=j*5+4) (by omega);have m0:mkR k (j*5)=.string (mkS (k+j*5)):=by rw [mkR,if_pos (by omega)]
    have m1:mkR k (j*5+1)=.int .i64 ((k:Int)+(j:Int)*5+1):=by rw [mkR,if_neg (by omega)];congr 1<;>omega
    have m2:mkR k (j*5+2)=.int .i64 ((k:Int)+(j:Int)*5+1+1):=by rw [mkR,if_neg (by omega)];congr 1<;>omega
    have m3:mkR k (j*5+3)=.int .i64 ((k:Int)+(j:Int)*5+1+1+1):=by rw [mkR,if_neg (by omega)];congr 1<;>omega
    have m4:mkR k (j*5+4)=.string (mkS (k+j*5+1+1+1+1)):=by rw [mkR,if_pos (by omega)];congr 1
    rw [m0] at s0;rw [m1] at s1;rw [m2] at s2;rw [m3] at s3;rw [m4] at s4;have hmt:=fun W=>markText_any (k+j*5) W (by omega)
    rw [show(((k+j*5:Nat)):Int)=(k:Int)+(j:Int)*5 by omega] at hmt;have hmt4:=fun W=>markText_any (k+j*5+1+1+1+1) W (by omega)
    rw [show(((k+j*5+1+1+1+1:Nat)):Int)=(k:Int)+(j:Int)*5+1+1+1+1 by omega] at hmt4
    have hg:∀ (V:World) i u,w.grownBy V (some g)->w.grownBy (V.setCell ⟨g,i,none⟩ u) (some g):=fun V i u h=>
     ⟨h.os,h.tape,h.output,by simpa using h.size,fun q hq hne=>by rw [heap_setCell_other V ⟨g,i,none⟩ q _ (fun e=>hne (by simp [e]))];exact h.block q hq hne⟩
    have HST:Hid (∀ W,Below wr.heap.size wr W->(∃ y,W.cell? ⟨g,j*5,none⟩=some y)∧W.frozen? ⟨g,j*5,none⟩=false∧(∃ y,(W.setCell ⟨g,j*5,none⟩ (.string (mkS (k+j*5)))).cell? ⟨g,j*5+1,none⟩=some y)∧(∃ y,((W.setCell ⟨g,j*5,none⟩ (.string (mkS (k+j*5)))).setCell ⟨g,j*5+1,none⟩ (.int .i64 ((k:Int)+(j:Int)*5+1))).cell? ⟨g,j*5+2,none⟩=some y)∧(∃ y,(((W.setCell ⟨g,j*5,none⟩ (.string (mkS (k+j*5)))).setCell ⟨g,j*5+1,none⟩ (.int .i64 ((k:Int)+(j:Int)*5+1))).setCell ⟨g,j*5+2,none⟩ (.int .i64 ((k:Int)+(j:Int)*5+1+1))).cell? ⟨g,j*5+3,none⟩=some y)∧W.frozen? ⟨g,j*5+1,none⟩=false∧W.frozen? ⟨g,j*5+2,none⟩=false∧W.frozen? ⟨g,j*5+3,none⟩=false∧
     (((((W.setCell ⟨g,j*5,none⟩ (.string (mkS (k+j*5)))).setCell ⟨g,j*5+1,none⟩ (.int .i64 ((k:Int)+(j:Int)*5+1))).setCell ⟨g,j*5+2,none⟩ (.int .i64 ((k:Int)+(j:Int)*5+1+1))).setCell ⟨g,j*5+3,none⟩ (.int .i64 ((k:Int)+(j:Int)*5+1+1+1))).ownsRow B 56 5 (.slice (some ⟨g,0,none⟩) n cap) n ((mkL mkR k (n*5)).take (j*5+3+1)++xs.drop (j*5+3+1))∧w.grownBy ((((W.setCell ⟨g,j*5,none⟩ (.string (mkS (k+j*5)))).setCell ⟨g,j*5+1,none⟩ (.int .i64 ((k:Int)+(j:Int)*5+1))).setCell ⟨g,j*5+2,none⟩ (.int .i64 ((k:Int)+(j:Int)*5+1+1))).setCell ⟨g,j*5+3,none⟩ (.int .i64 ((k:Int)+(j:Int)*5+1+1+1))) (some g))):=by
     intro W hW;have h0:=own_below hownj hW;have o0:=(h0.stored (j*5) (.string (mkS (k+j*5)))).1;rw [s0] at o0;have o1:=(o0.stored (j*5+1) (.int .i64 ((k:Int)+(j:Int)*5+1))).1;rw [s1] at o1;have o2:=(o1.stored (j*5+2) (.int .i64 ((k:Int)+(j:Int)*5+1+1))).1;rw [s2] at o2;have o3:=(o2.stored (j*5+3) (.int .i64 ((k:Int)+(j:Int)*5+1+1+1))).1;rw [s3] at o3;refine⟨?_,h0.frozenAt _,?_,?_,?_,h0.frozenAt _,h0.frozenAt _,h0.frozenAt _,o3,?_⟩
     ·rw [h0.cellAt (j*5) (by omega)];exact mkL_cell hxl (by omega)
     ·rw [o0.cellAt (j*5+1) (by omega)];exact mkL_cell hxl (by omega)
     ·rw [o1.cellAt (j*5+2) (by omega)];exact mkL_cell hxl (by omega)
     ·rw [o2.cellAt (j*5+3) (by omega)];exact mkL_cell hxl (by omega)
     ·exact hg _ _ _ (hg _ _ _ (hg _ _ _ (hg _ _ _ (mr_below hgr hW))))
    have HSU:Hid (∀ V W:World,(V.ownsRow B 56 5 (.slice (some ⟨g,0,none⟩) n cap) n ((mkL mkR k (n*5)).take (j*5+3+1)++xs.drop (j*5+3+1))∧w.grownBy V (some g))->Below V.heap.size V W->(∃ y,W.cell? ⟨g,j*5+4,none⟩=some y)∧W.frozen? ⟨g,j*5+4,none⟩=false∧((W.setCell ⟨g,j*5+4,none⟩ (.string (mkS (k+j*5+1+1+1+1)))).ownsRow B 56 5 (.slice (some ⟨g,0,none⟩) n cap) n ((mkL mkR k (n*5)).take (j*5+4+1)++xs.drop (j*5+4+1))∧w.grownBy (W.setCell ⟨g,j*5+4,none⟩ (.string (mkS (k+j*5+1+1+1+1)))) (some g))):=by
     intro V W hV hW;have h0:=own_below hV.1 hW;have o4:=(h0.stored (j*5+4) (.string (mkS (k+j*5+1+1+1+1)))).1;rw [s4] at o4;refine⟨?_,h0.frozenAt _,o4,hg _ _ _ (mr_below hV.2 hW)⟩;rw [h0.cellAt (j*5+4) (by omega)];exact mkL_cell hxl (by omega)
    have HE:Hid ((j+1)*5=j*5+4+1):=by show _=_;omega
    generalize mkS (k+j*5)=ms at*;generalize mkS (k+j*5+1+1+1+1)=mt at*;clear s0 s1 s2 s3 s4 m0 m1 m2 m3 m4 hownj hgr hg;go_wp2_with (first|(go_at_call 41;with_reducible refine(hmt _).mono ?_;rintro e w2 ⟨rfl,hb2⟩;obtain⟨⟨y0,c0⟩,f0,⟨y1,c1⟩,⟨y2,c2⟩,⟨y3,c3⟩,f1,f2,f3,hx⟩:=HST.out w2 hb2;have HX:=Nm.hide hx;clear hx)|(go_at_call 41;with_reducible refine(hmt4 _).mono ?_;rintro e w3 ⟨rfl,hb3⟩;obtain⟨⟨y4,c4⟩,f4,hx4⟩:=HSU.out _ _ HX.out hb3;have HY:=Nm.hide hx4;clear hx4))
    go_roundw
    case rel=>exact⟨j+1,by omega,by go_num,by go_num,by rw [HE.out];exact HY.out.1,HY.out.2⟩
    case measure=>simp [intOf];omega
   ·have hje:j=n:=by omega
    subst hje;rw [mkL_done hxl] at hownj;go_wp2;go_ret;exact⟨rfl,hownj,hgr⟩
theorem strz_ne(s:ByteArray):(s.toList != s.toList)=false∧(s.toList==s.toList)=true:=by simp
set_option maxRecDepth 100000 in
set_option maxHeartbeats 800000 in
theorem eqSet_any(s:Sz)(dv du:Value)(w:World)(h:Nm.SRow w dv s.da)(h':Nm.SRow w du s.da)(hl:s.da.length<=1000000000):
 Calls Tryz.prog 67 #[.agg #[.string s.own,.int .i64 s.ty,.int .i64 s.tt,dv],.agg #[.string s.own,.int .i64 s.ty,.int .i64 s.tt,du]] w fun e w'=>e=.returned (.bool true)∧Below w.heap.size w w':=by
 obtain⟨o,ty,tt,da⟩:=s;simp only at*
 have e1:(ty != ty)=false:=by simp
 have e2:(tt != tt)=false:=by simp
 obtain⟨e3,e4⟩:=strz_ne o;have hB:=((Below.refl w.heap.size w).alloc (Nat.le_refl _) (.cells #[.string o,.int .i64 ty,.int .i64 tt,dv] 90)).alloc (by simp) (.cells #[.string o,.int .i64 ty,.int .i64 tt,du] 90);have hone:=eqStringS_any dv du da _ (h.below hB) (h'.below hB) hl;obtain⟨a,cap,rfl,_⟩:=h;obtain⟨a',cap',rfl,_⟩:=h';go_enter Tryz.func67,Tryz.ntmps67;go_wp2_with (go_at_call 93;refine hone.mono ?_;rintro e w1 ⟨rfl,hb1⟩)
 go_ret;exact⟨rfl,Nm.below_two hB hb1⟩
set_option maxRecDepth 100000 in
set_option maxHeartbeats 1600000 in
theorem eqSetS_any(v u:Value)(qs rs:List Zp)(w:World)(h:ZRow w v qs)(h':ZRow w u rs)(he:qs.map (·.1)=rs.map (·.1))(hd:∀ q∈qs,q.1.da.length<=1000000000):
 Calls Tryz.prog 38 #[v,u] w fun e w'=>e=.returned (.bool true)∧Below w.heap.size w w':=by
 have hlen:rs.length=qs.length:=by have:=congrArg List.length he;simpa using this.symm
 obtain⟨⟨_,a,cap,rfl,hcap,hmx,hc⟩,hq⟩:=h;obtain⟨⟨_,a',cap',rfl,hcap',hmx',hc'⟩,hr⟩:=h';unfold maxLen at hmx hmx';rw [hlen] at hcap' hc' ⊢;have hne:((qs.length:Int) != (qs.length:Int))=false:=by simp
 go_enter Tryz.func38,Tryz.ntmps38;go_wp2
 go_loopw [5] (fun i wr=>∃ k:Nat,k<=qs.length∧i=.int .i64 k∧Below w.heap.size w wr) (fun i _=>qs.length-(intOf i).toNat)
 case atStart=>exact⟨0,Nat.zero_le _,rfl,Below.refl _ _⟩
 case round=>
  obtain⟨k,hk,rfl,hbel⟩:=hrel
  by_cases hlt:k<qs.length
  ·obtain⟨x,hx⟩:∃ x,qs[k]? =some x:=⟨_,List.getElem?_eq_getElem hlt⟩;obtain⟨y,hy⟩:∃ y,rs[k]? =some y:=⟨_,List.getElem?_eq_getElem (by omega)⟩
   have hxy:y.1=x.1:=by
    have:=congrArg (fun l=>l[k]?) he;simp [hx,hy] at this
    exact this.symm
   obtain⟨b,off,rfl,hcell⟩:=hc (by omega);obtain⟨b',off',rfl,hcell'⟩:=hc' (by omega);have R1:=zp_cells hcell hx;have R2:=zp_cells hcell' hy;have s1:=hq x (List.mem_of_getElem? hx);have s2:=hr y (List.mem_of_getElem? hy);have hdl:=hd x (List.mem_of_getElem? hx);rw [hxy] at R2 s2;obtain⟨s,dv⟩:=x;obtain⟨s',du⟩:=y;simp only at hxy R1 R2 s1 s2 hdl
   have heq:=fun W (hW:Below w.heap.size w W)=>(eqSet_any s dv du W (s1.below hW) (s2.below hW) hdl).mono (R':=fun e w'=>e=.returned (.bool true)∧Below w.heap.size w w') (by rintro e w' ⟨he,hb⟩;exact⟨he,hW.trans (hb.mono hW.size)⟩)
   obtain⟨o,ty,tt,da⟩:=s;simp only at R1 R2 heq
   have hS:∀ W,Below w.heap.size w W->((W.cell? ⟨b,off+k*4,none⟩=some (.string o)∧W.cell? ⟨b,off+k*4+1,none⟩=some (.int .i64 ty)∧W.cell? ⟨b,off+k*4+2,none⟩=some (.int .i64 tt)∧W.cell? ⟨b,off+k*4+3,none⟩=some dv)∧(W.cell? ⟨b',off'+k*4,none⟩=some (.string o)∧W.cell? ⟨b',off'+k*4+1,none⟩=some (.int .i64 ty)∧W.cell? ⟨b',off'+k*4+2,none⟩=some (.int .i64 tt)∧W.cell? ⟨b',off'+k*4+3,none⟩=some du))∧Below w.heap.size w W:=by
    intro W hW;have put:∀ {B O:Nat} {z:Value},w.cell? ⟨B,O,none⟩=some z->W.cell? ⟨B,O,none⟩=some z:=fun h=>(hW.cell (World.block_lt_of_cell? w _ h)).trans h
    exact⟨⟨⟨put R1.1,put R1.2.1,put R1.2.2.1,put R1.2.2.2⟩,⟨put R2.1,put R2.2.1,put R2.2.2.1,put R2.2.2.2⟩⟩,hW⟩
   have hS0:=hS wr.drew hbel.drew;have i1:(0:Int)<=(k:Int):=by omega
   have i2:(k:Int)<(qs.length:Int):=by omega
   clear hc hc' hcell hcell' hx hy R1 R2 s1 s2 hq hr he hd;go_wp2;go_region_held3 (fun W=>((W.cell? ⟨b,off+k*4,none⟩=some (.string o)∧W.cell? ⟨b,off+k*4+1,none⟩=some (.int .i64 ty)∧W.cell? ⟨b,off+k*4+2,none⟩=some (.int .i64 tt)∧W.cell? ⟨b,off+k*4+3,none⟩=some dv)∧(W.cell? ⟨b',off'+k*4,none⟩=some (.string o)∧W.cell? ⟨b',off'+k*4+1,none⟩=some (.int .i64 ty)∧W.cell? ⟨b',off'+k*4+2,none⟩=some (.int .i64 tt)∧W.cell? ⟨b',off'+k*4+3,none⟩=some du))∧Below w.heap.size w W) (first|with_reducible assumption|with_reducible exact hS0) ((first|(go_at_call 67;refine(heq _ hS0.2).mono ?_;rintro e w' ⟨rfl,hb1⟩;have hS1:=hS _ hb1)))
   go_wp2;go_roundw
   case rel=>exact⟨k+1,by omega,by go_num,hS1.2⟩
   case measure=>simp [intOf];omega
  ·clear hc hc' hq hr;have i2:(qs.length:Int)<=(k:Int):=by omega
   go_wp2;go_ret;exact⟨rfl,hbel⟩
set_option maxRecDepth 100000 in
set_option maxHeartbeats 800000 in
theorem eqZone_any(o:ByteArray)(v u:Value)(qs rs:List Zp)(w:World)(h:ZRow w v qs)(h':ZRow w u rs)(he:qs.map (·.1)=rs.map (·.1))(hd:∀ q∈qs,q.1.da.length<=1000000000):
 Calls Tryz.prog 11 #[.agg #[.string o,v],.agg #[.string o,u]] w fun e w'=>e=.returned (.bool true)∧Below w.heap.size w w':=by
 obtain⟨e3,e4⟩:=strz_ne o;have hB:=((Below.refl w.heap.size w).alloc (Nat.le_refl _) (.cells #[.string o,v] 33)).alloc (by simp) (.cells #[.string o,u] 33);have hone:=eqSetS_any v u qs rs _ (h.below hB) (h'.below hB) he hd;obtain⟨⟨_,a,cap,rfl,_⟩,_⟩:=h;obtain⟨⟨_,a',cap',rfl,_⟩,_⟩:=h';clear he hd;go_enter Tryz.func11,Tryz.ntmps11;go_wp2_with (go_at_call 38;refine hone.mono ?_;rintro e w1 ⟨rfl,hb1⟩)
 go_ret;exact⟨rfl,Nm.below_two hB hb1⟩
end Go.Proofs.YtgilkakllagbnaaGreat
