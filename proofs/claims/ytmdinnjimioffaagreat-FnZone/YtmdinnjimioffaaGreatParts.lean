import Derived.Test.YtmdinnjimioffaaGreatJCmp
import Derived.Test.YtmdinnjimioffaaGreatOwnS
import Derived.Test.YtmdinnjimioffaaGreatJData2
import Derived.Test.YtmdinnjimioffaaGreatData3
namespace Go.Proofs.YtmdinnjimioffaaGreat
open Go.RowKit
def okForm(f:ByteArray):Prop:=f.size<=100∧∀ k,(h:k<f.size)->f[k]=110∨f[k]=98∨f[k]=116∨f[k]=115∨f[k]=99∨f[k]=109∨f[k]=42
set_option maxRecDepth 100000 in
set_option maxHeartbeats 40000000 in
theorem l02Parts_any(f d0:ByteArray)(w:World)(hf:okForm f)(hd:d0.size<=65535):
 Calls Tryz.prog 51 #[.string f,.string d0] w fun e w'=>∃ v,e=.returned (.tuple #[v,.bool (Dt.parts (f.data.toList.map Dt.letP) d0).isSome])∧
  (∀ ps,Dt.parts (f.data.toList.map Dt.letP) d0=some ps->w'.ownsRow w.heap.size 9 1 v ps.length (ps.map Value.string))∧Below w.heap.size w w':=by
 obtain⟨i0,hi,hz0,hz1,hz2⟩:=info_parts Tryz.infoStr;obtain⟨hf1,hf2⟩:=hf;have hst:=Dt.pat_start (f.data.toList.map Dt.letP) d0;go_enter Tryz.func51,Tryz.ntmps51;go_wp2
 go_loopw [6,1,7] (fun v x i wr=>∃ (k:Nat) (ps:List ByteArray) (d:ByteArray),k<=f.size∧i=.int .i64 k∧x=.string d∧d.size<=d0.size∧ps.length=k∧Dt.PAt (f.data.toList.map Dt.letP) d0 ps ((f.data.toList.map Dt.letP).drop k) d∧wr.ownsRow w.heap.size 9 1 v ps.length (ps.map Value.string)∧Below w.heap.size w wr)
  (fun _ _ i _=>f.size-(intOf i).toNat)
 case atStart=>exact⟨0,[],d0,Nat.zero_le _,rfl,rfl,Nat.le_refl _,rfl,by simpa using hst,World.ownsRow_made w #[] 0 (Nat.le_refl _) (by decide) rfl,(Below.refl _ _).alloc (Nat.le_refl _) _⟩
 case round=>
  obtain⟨k,ps,d,hk,rfl,rfl,hdz,hpl,hat,hown,hbel⟩:=hrel;have hsz:=hbel.size;have hpb:ps.length<=100:=by omega
  have HPL:=Nm.hide hpl;clear hst hpl
  by_cases hlt:k<f.size
  ·have hlt':(k:Int)<(f.size:Int):=by omega
   rw [Dt.drop_let hlt] at hat
   rcases hf2 k hlt with hc|hc|hc|hc|hc|hc|hc
   ·skip
    rw [hc] at hat;have hv:f[k].toNat=110:=by rw [hc];rfl
    have q1:((f[k].toNat:Int)==110)=true:=by rw [beq_iff_eq];omega
    have q8:((f[k].toNat:Int) != 109)=true:=by rw [bne_iff_ne];omega
    have q9:((f[k].toNat:Int) != 42)=true:=by rw [bne_iff_ne];omega
    clear hv hc hf2;have hcall:=l02NameAt_any d
    by_cases h0:(Dt.nameAtS d).size=0
    ·have HN:=Nm.hide (Dt.pat_none hat (by show Dt.sz .nm d=none;rw [Dt.sz,if_pos h0]));obtain⟨e1,e2⟩:=beq_empty h0;clear hat;go_wp2_with (go_at_call 77;refine(hcall _).mono ?_;rintro e w2 ⟨rfl,hw⟩;obtain rfl:wr=w2:=hw.symm;clear hw)
     go_ret2;rw [HN.out];exact⟨_,rfl,(fun ps h=>by cases h),hbel⟩
    ·have HN:=Nm.hide (Dt.pat_step hat (n:=(Dt.nameAtS d).size) (by show Dt.sz .nm d=some _;rw [Dt.sz,if_neg h0]) (Dt.name_ext d h0));obtain⟨e1,e2⟩:=not_empty (s:=Dt.nameAtS d) (by omega);have hle:=Dt.name_le d;have hle':((Dt.nameAtS d).size:Int)<=(d.size:Int):=by omega
     clear hat h0;generalize Dt.nameAtS d=P at*;go_wp2_with (first|(go_at_call 77;refine(hcall _).mono ?_;rintro e w2 ⟨rfl,hw⟩;obtain rfl:wr=w2:=hw.symm;clear hw)|(at_builtin;refine wpList_append_own _ rfl (.tmp 96) (.tmp 98) 51 rfl w.heap.size 9 i0 (.string ByteArray.empty) 1 16 Tryz.underlying51 hi hz0 hz1 hz2 rfl (by decide) _ _ _ rfl (hown.alloc _) ⟨wr.heap.size,0,none⟩ 1 1 [.string P] rfl rfl (cell_new1 _ _ _) (Nm.one_cell _ rfl) (by unfold maxLen;omega) (by omega) (by simp;omega) ?_))
     ·intro v' w1 hown' hgrow _;have R:=own_step hsz hown hbel _ hown' hgrow;clear hown' hgrow hown hbel;go_wp2;go_roundw
      case rel=>exact⟨k+1,_,_,by omega,by go_num,rfl,by simp<;>omega,by have:=HPL.out;simp;omega,HN.out,R.1,R.2⟩
      case measure=>simp [intOf];omega
   ·skip
    rw [hc] at hat;have hv:f[k].toNat=98:=by rw [hc];rfl
    have q1:((f[k].toNat:Int)==110)=false:=by rw [beq_eq_false_iff_ne];omega
    have q2:((f[k].toNat:Int)==98)=true:=by rw [beq_iff_eq];omega
    have q8:((f[k].toNat:Int) != 109)=true:=by rw [bne_iff_ne];omega
    have q9:((f[k].toNat:Int) != 42)=true:=by rw [bne_iff_ne];omega
    clear hv hc hf2
    by_cases h0:d.size=0
    ·have HN:=Nm.hide (Dt.pat_none hat (by show Dt.sz (.bs 1) d=none;rw [Dt.sz,if_neg (by omega)]));obtain⟨e1,e2⟩:=beq_empty h0;clear hat;go_wp2;go_ret2;rw [HN.out];exact⟨_,rfl,(fun ps h=>by cases h),hbel⟩
    ·have hs1:(d.extract 0 1).size=1:=by simp;omega
     have HN:=Nm.hide (Dt.pat_step hat (n:=1) (x:=d.extract 0 1) (by show Dt.sz (.bs 1) d=some _;rw [Dt.sz,if_pos (by omega)]) rfl);rw [hs1] at HN;obtain⟨e1,e2⟩:=not_empty (s:=d) (by omega);obtain⟨e3,e4⟩:=not_empty (s:=d.extract 0 1) (by omega);have hle':(1:Int)<=(d.size:Int):=by omega
     have hle:1<=d.size:=by omega
     clear hat h0;go_wp2_with (first|(fail)|(at_builtin;refine wpList_append_own _ rfl (.tmp 96) (.tmp 98) 51 rfl w.heap.size 9 i0 (.string ByteArray.empty) 1 16 Tryz.underlying51 hi hz0 hz1 hz2 rfl (by decide) _ _ _ rfl (hown.alloc _) ⟨wr.heap.size,0,none⟩ 1 1 [.string (d.extract 0 1)] rfl rfl (cell_new1 _ _ _) (Nm.one_cell _ rfl) (by unfold maxLen;omega) (by omega) (by simp;omega) ?_))
     ·intro v' w1 hown' hgrow _;have R:=own_step hsz hown hbel _ hown' hgrow;clear hown' hgrow hown hbel;go_wp2;go_roundw
      case rel=>exact⟨k+1,_,_,by omega,by go_num,rfl,by simp<;>omega,by have:=HPL.out;simp;omega,HN.out,R.1,R.2⟩
      case measure=>simp [intOf];omega
   ·skip
    rw [hc] at hat;have hv:f[k].toNat=116:=by rw [hc];rfl
    have q1:((f[k].toNat:Int)==110)=false:=by rw [beq_eq_false_iff_ne];omega
    have q2:((f[k].toNat:Int)==98)=false:=by rw [beq_eq_false_iff_ne];omega
    have q3:((f[k].toNat:Int)==116)=true:=by rw [beq_iff_eq];omega
    have q8:((f[k].toNat:Int) != 109)=true:=by rw [bne_iff_ne];omega
    have q9:((f[k].toNat:Int) != 42)=true:=by rw [bne_iff_ne];omega
    clear hv hc hf2;have hcall:=fun w=>l02Text_any d w (by unfold maxLen;omega)
    by_cases h0:(Dt.txtS d).size=0
    ·have HN:=Nm.hide (Dt.pat_none hat (by show Dt.sz .tx d=none;rw [Dt.sz,if_pos h0]));obtain⟨e1,e2⟩:=beq_empty h0;clear hat;go_wp2_with (go_at_call 78;refine(hcall _).mono ?_;rintro e w2 ⟨rfl,hw⟩;obtain rfl:wr=w2:=hw.symm;clear hw)
     go_ret2;rw [HN.out];exact⟨_,rfl,(fun ps h=>by cases h),hbel⟩
    ·have HN:=Nm.hide (Dt.pat_step hat (n:=(Dt.txtS d).size) (by show Dt.sz .tx d=some _;rw [Dt.sz,if_neg h0]) (Dt.txt_ext d));obtain⟨e1,e2⟩:=not_empty (s:=Dt.txtS d) (by omega);have hle:=Dt.txt_le d;have hle':((Dt.txtS d).size:Int)<=(d.size:Int):=by omega
     clear hat h0;generalize Dt.txtS d=P at*;go_wp2_with (first|(go_at_call 78;refine(hcall _).mono ?_;rintro e w2 ⟨rfl,hw⟩;obtain rfl:wr=w2:=hw.symm;clear hw)|(at_builtin;refine wpList_append_own _ rfl (.tmp 96) (.tmp 98) 51 rfl w.heap.size 9 i0 (.string ByteArray.empty) 1 16 Tryz.underlying51 hi hz0 hz1 hz2 rfl (by decide) _ _ _ rfl (hown.alloc _) ⟨wr.heap.size,0,none⟩ 1 1 [.string P] rfl rfl (cell_new1 _ _ _) (Nm.one_cell _ rfl) (by unfold maxLen;omega) (by omega) (by simp;omega) ?_))
     ·intro v' w1 hown' hgrow _;have R:=own_step hsz hown hbel _ hown' hgrow;clear hown' hgrow hown hbel;go_wp2;go_roundw
      case rel=>exact⟨k+1,_,_,by omega,by go_num,rfl,by simp<;>omega,by have:=HPL.out;simp;omega,HN.out,R.1,R.2⟩
      case measure=>simp [intOf];omega
   ·skip
    rw [hc] at hat;have hv:f[k].toNat=115:=by rw [hc];rfl
    have q1:((f[k].toNat:Int)==110)=false:=by rw [beq_eq_false_iff_ne];omega
    have q2:((f[k].toNat:Int)==98)=false:=by rw [beq_eq_false_iff_ne];omega
    have q3:((f[k].toNat:Int)==116)=false:=by rw [beq_eq_false_iff_ne];omega
    have q4:((f[k].toNat:Int)==115)=true:=by rw [beq_iff_eq];omega
    have q8:((f[k].toNat:Int) != 109)=true:=by rw [bne_iff_ne];omega
    have q9:((f[k].toNat:Int) != 42)=true:=by rw [bne_iff_ne];omega
    clear hv hc hf2;have htst:=Dt.tat_start d;go_wp2
    go_loop [8] (fun v=>∃ p,v=.string p∧Dt.TAt d p) (fun v=>match v with|.string p=>d.size-p.size|_=>0)
    case atStart=>exact⟨_,rfl,htst⟩
    case round=>
     obtain⟨p,rfl,ht⟩:=hrel;clear htst;have hple:=ht.1;have hple':(p.size:Int)<=(d.size:Int):=by omega
     have hcall:=fun w=>l02Text_any (d.extract p.size d.size) w (by unfold maxLen;simp;omega)
     by_cases h0:(Dt.txtS (d.extract p.size d.size)).size=0
     ·obtain⟨e1,e2⟩:=beq_empty h0;have hts:=Dt.tat_end ht h0
      by_cases hp0:p.size=0
      ·have HN:=Nm.hide (Dt.pat_none hat (by show Dt.sz .txs d=none;rw [Dt.sz,if_pos (by omega)]));obtain⟨e3,e4⟩:=beq_empty hp0;clear hat ht h0 hts hp0;go_wp2_with (go_at_call 78;refine(hcall _).mono ?_;rintro e w2 ⟨rfl,hw⟩;obtain rfl:wr=w2:=hw.symm;clear hw)
       go_ret2;rw [HN.out];exact⟨_,rfl,(fun ps h=>by cases h),hbel⟩
      ·have HN:=Nm.hide (Dt.pat_step hat (n:=p.size) (by show Dt.sz .txs d=some _;rw [Dt.sz,if_neg (by omega),hts]) ht.2.1);obtain⟨e3,e4⟩:=not_empty (s:=p) (by omega);clear hat ht h0 hts hp0;go_wp2_with (first|(go_at_call 78;refine(hcall _).mono ?_;rintro e w2 ⟨rfl,hw⟩;obtain rfl:wr=w2:=hw.symm;clear hw)|(at_builtin;refine wpList_append_own _ rfl (.tmp 96) (.tmp 98) 51 rfl w.heap.size 9 i0 (.string ByteArray.empty) 1 16 Tryz.underlying51 hi hz0 hz1 hz2 rfl (by decide) _ _ _ rfl (hown.alloc _) ⟨wr.heap.size,0,none⟩ 1 1 [.string p] rfl rfl (cell_new1 _ _ _) (Nm.one_cell _ rfl) (by unfold maxLen;omega) (by omega) (by simp;omega) ?_))
       ·intro v' w1 hown' hgrow _;have R:=own_step hsz hown hbel _ hown' hgrow;clear hown' hgrow hown hbel;go_wp2;go_roundw
        case rel=>exact⟨k+1,_,_,by omega,by go_num,rfl,by simp<;>omega,by have:=HPL.out;simp;omega,HN.out,R.1,R.2⟩
        case measure=>simp [intOf];omega
     ·obtain⟨e1,e2⟩:=not_empty (s:=Dt.txtS (d.extract p.size d.size)) (by omega);have HT:=Nm.hide (Dt.tat_step ht h0);have hle:=Dt.txt_le (d.extract p.size d.size);have hdz2:(d.extract p.size d.size).size=d.size-p.size:=by simp
      rw [hdz2] at hle;clear ht hat;generalize Dt.txtS (d.extract p.size d.size)=T at*;go_wp2_with (go_at_call 78;refine(hcall _).mono ?_;rintro e w2 ⟨rfl,hw⟩;obtain rfl:wr=w2:=hw.symm;clear hw)
      go_round
      case rel=>exact⟨_,rfl,HT.out⟩
      case measure=>simp;omega
   ·skip
    rw [hc] at hat;have hv:f[k].toNat=99:=by rw [hc];rfl
    have q1:((f[k].toNat:Int)==110)=false:=by rw [beq_eq_false_iff_ne];omega
    have q2:((f[k].toNat:Int)==98)=false:=by rw [beq_eq_false_iff_ne];omega
    have q3:((f[k].toNat:Int)==116)=false:=by rw [beq_eq_false_iff_ne];omega
    have q4:((f[k].toNat:Int)==115)=false:=by rw [beq_eq_false_iff_ne];omega
    have q5:((f[k].toNat:Int)==99)=true:=by rw [beq_iff_eq];omega
    have q8:((f[k].toNat:Int) != 109)=true:=by rw [bne_iff_ne];omega
    have q9:((f[k].toNat:Int) != 42)=true:=by rw [bne_iff_ne];omega
    clear hv hc hf2;have hcall:=fun w=>l02Text_any d w (by unfold maxLen;omega)
    have htl:=Dt.txt_le d
    by_cases h0:(Dt.txtS d).size<2
    ·have HN:=Nm.hide (Dt.pat_none hat (by show Dt.sz .tagr d=none;rw [Dt.sz,Dt.tag_short (.inl h0)];rfl));have h0':((Dt.txtS d).size:Int)<2:=by omega
     clear hat;go_wp2_with (go_at_call 78;refine(hcall _).mono ?_;rintro e w2 ⟨rfl,hw⟩;obtain rfl:wr=w2:=hw.symm;clear hw)
     go_ret2;rw [HN.out];exact⟨_,rfl,(fun ps h=>by cases h),hbel⟩
    ·have h0':(2:Int)<=((Dt.txtS d).size:Int):=by omega
     by_cases h1:16<(Dt.txtS d).size
     ·have HN:=Nm.hide (Dt.pat_none hat (by show Dt.sz .tagr d=none;rw [Dt.sz,Dt.tag_short (.inr h1)];rfl));have h1':(16:Int)<((Dt.txtS d).size:Int):=by omega
      clear hat;go_wp2_with (go_at_call 78;refine(hcall _).mono ?_;rintro e w2 ⟨rfl,hw⟩;obtain rfl:wr=w2:=hw.symm;clear hw)
      go_ret2;rw [HN.out];exact⟨_,rfl,(fun ps h=>by cases h),hbel⟩
     ·have h1':((Dt.txtS d).size:Int)<=16:=by omega
      have htb:=fun j (h2:1<=j) (h3:j<(Dt.txtS d).size)=>Dt.tag_bad (d:=d) (k:=j) h2 h3
      have htg:=Dt.tag_good (d:=d) (by omega) (by omega);have hb:Hid (∀ b,Dt.tagB d=b->Dt.sz .tagr d=if b then some d.size else none):=by show ∀ b,_;intro b hb;rw [Dt.sz,hb]
      generalize Dt.txtS d=P at*;go_wp2_with (go_at_call 78;refine(hcall _).mono ?_;rintro e w2 ⟨rfl,hw⟩;obtain rfl:wr=w2:=hw.symm;clear hw)
      go_loop [9] (fun v=>∃ j:Nat,1<=j∧j<=P.size∧v=.int .i64 j∧∀ i,1<=i->i<j->(hi:i<P.size)->Dt.alnumB P[i]=true) (fun v=>P.size-(intOf v).toNat)
      case atStart=>exact⟨1,by omega,by omega,rfl,fun i h1 h2=>by omega⟩
      case round=>
       obtain⟨j,hj1,hj2,rfl,hj⟩:=hrel
       by_cases hjl:j<P.size
       ·have hjl':(j:Int)<(P.size:Int):=by omega
        have hal:=l02Alnum_any P[j]
        cases hA:Dt.alnumB P[j] with
        |false=>
         have HN:=Nm.hide (Dt.pat_none hat (by show Dt.sz .tagr d=none;rw [hb.out _ (htb j hj1 hjl hA)];rfl));rw [hA] at hal;clear hat htb htg hb hj hA;go_wp2_with (go_at_call 79;refine(hal _).mono ?_;rintro e w2 ⟨rfl,hw⟩;obtain rfl:wr=w2:=hw.symm;clear hw)
         go_ret2;rw [HN.out]
         exact⟨_,rfl,(fun ps h=>by cases h),hbel⟩
        |true=>
         have HJ:Hid (∀ i,1<=i->i<j+1->(hi:i<P.size)->Dt.alnumB P[i]=true):=by
          show ∀ i,_
          intro i h1 h2 h3
          by_cases e:i=j
          ·subst e;exact hA
          ·exact hj i h1 (by omega) h3
         rw [hA] at hal;clear hat htb htg hb hj hA;go_wp2_with (go_at_call 79;refine(hal _).mono ?_;rintro e w2 ⟨rfl,hw⟩;obtain rfl:wr=w2:=hw.symm;clear hw)
         go_round
         case rel=>exact⟨j+1,by omega,by omega,by go_num,HJ.out⟩
         case measure=>simp [intOf];omega
       ·have hjl':(P.size:Int)<=(j:Int):=by omega
        have htt:=htg (fun i h1 h2=>hj i h1 (by omega) h2);have HN:=Nm.hide (Dt.pat_step hat (n:=d.size) (by show Dt.sz .tagr d=some _;rw [hb.out _ htt];rfl) (Dt.ext_all d));rw [Dt.ext_none] at HN;obtain⟨e1,e2⟩:=not_empty (s:=d) (by omega);clear hat htb htg hb hj htt;go_wp2_with (first|(fail)|(at_builtin;refine wpList_append_own _ rfl (.tmp 96) (.tmp 98) 51 rfl w.heap.size 9 i0 (.string ByteArray.empty) 1 16 Tryz.underlying51 hi hz0 hz1 hz2 rfl (by decide) _ _ _ rfl (hown.alloc _) ⟨wr.heap.size,0,none⟩ 1 1 [.string d] rfl rfl (cell_new1 _ _ _) (Nm.one_cell _ rfl) (by unfold maxLen;omega) (by omega) (by simp;omega) ?_))
        ·intro v' w1 hown' hgrow _;have R:=own_step hsz hown hbel _ hown' hgrow;clear hown' hgrow hown hbel;go_wp2;go_roundw
         case rel=>exact⟨k+1,_,_,by omega,by go_num,rfl,by simp<;>omega,by have:=HPL.out;simp;omega,HN.out,R.1,R.2⟩
         case measure=>simp [intOf];omega
   ·skip
    rw [hc] at hat;have hv:f[k].toNat=109:=by rw [hc];rfl
    have q1:((f[k].toNat:Int)==110)=false:=by rw [beq_eq_false_iff_ne];omega
    have q2:((f[k].toNat:Int)==98)=false:=by rw [beq_eq_false_iff_ne];omega
    have q3:((f[k].toNat:Int)==116)=false:=by rw [beq_eq_false_iff_ne];omega
    have q4:((f[k].toNat:Int)==115)=false:=by rw [beq_eq_false_iff_ne];omega
    have q5:((f[k].toNat:Int)==99)=false:=by rw [beq_eq_false_iff_ne];omega
    have q6:((f[k].toNat:Int)==109)=true:=by rw [beq_iff_eq];omega
    have q8:((f[k].toNat:Int) != 109)=false:=by rw [bne_eq_false_iff_eq];omega
    have q9:((f[k].toNat:Int) != 42)=true:=by rw [bne_iff_ne];omega
    clear hv hc hf2;have hcall:=fun w=>l02Map_any d w (by unfold maxLen;omega)
    cases hM:mapS d with
    |false=>
     have HN:=Nm.hide (Dt.pat_none hat (by show Dt.sz .mp d=none;rw [Dt.sz,hM];rfl));rw [hM] at hcall;clear hat hM;go_wp2_with (go_at_call 80;refine(hcall _).mono ?_;rintro e w2 ⟨rfl,hw⟩;obtain rfl:wr=w2:=hw.symm;clear hw)
     go_ret2;rw [HN.out]
     exact⟨_,rfl,(fun ps h=>by cases h),hbel⟩
    |true=>
     have HN:=Nm.hide (Dt.pat_step hat (n:=d.size) (by show Dt.sz .mp d=some _;rw [Dt.sz,hM];rfl) (Dt.ext_all d));rw [Dt.ext_none] at HN;rw [hM] at hcall;clear hat hM
     by_cases h0:d.size=0
     ·obtain⟨e1,e2⟩:=beq_empty h0;clear h0;go_wp2_with (first|(go_at_call 80;refine(hcall _).mono ?_;rintro e w2 ⟨rfl,hw⟩;obtain rfl:wr=w2:=hw.symm;clear hw)|(at_builtin;refine wpList_append_own _ rfl (.tmp 96) (.tmp 98) 51 rfl w.heap.size 9 i0 (.string ByteArray.empty) 1 16 Tryz.underlying51 hi hz0 hz1 hz2 rfl (by decide) _ _ _ rfl (hown.alloc _) ⟨wr.heap.size,0,none⟩ 1 1 [.string d] rfl rfl (cell_new1 _ _ _) (Nm.one_cell _ rfl) (by unfold maxLen;omega) (by omega) (by simp;omega) ?_))
      ·intro v' w1 hown' hgrow _;have R:=own_step hsz hown hbel _ hown' hgrow;clear hown' hgrow hown hbel;go_wp2;go_roundw
       case rel=>exact⟨k+1,_,_,by omega,by go_num,rfl,by simp<;>omega,by have:=HPL.out;simp;omega,HN.out,R.1,R.2⟩
       case measure=>simp [intOf];omega
     ·obtain⟨e1,e2⟩:=not_empty (s:=d) (by omega);clear h0;go_wp2_with (first|(go_at_call 80;refine(hcall _).mono ?_;rintro e w2 ⟨rfl,hw⟩;obtain rfl:wr=w2:=hw.symm;clear hw)|(at_builtin;refine wpList_append_own _ rfl (.tmp 96) (.tmp 98) 51 rfl w.heap.size 9 i0 (.string ByteArray.empty) 1 16 Tryz.underlying51 hi hz0 hz1 hz2 rfl (by decide) _ _ _ rfl (hown.alloc _) ⟨wr.heap.size,0,none⟩ 1 1 [.string d] rfl rfl (cell_new1 _ _ _) (Nm.one_cell _ rfl) (by unfold maxLen;omega) (by omega) (by simp;omega) ?_))
      ·intro v' w1 hown' hgrow _;have R:=own_step hsz hown hbel _ hown' hgrow;clear hown' hgrow hown hbel;go_wp2;go_roundw
       case rel=>exact⟨k+1,_,_,by omega,by go_num,rfl,by simp<;>omega,by have:=HPL.out;simp;omega,HN.out,R.1,R.2⟩
       case measure=>simp [intOf];omega
   ·skip
    rw [hc] at hat;have hv:f[k].toNat=42:=by rw [hc];rfl
    have q1:((f[k].toNat:Int)==110)=false:=by rw [beq_eq_false_iff_ne];omega
    have q2:((f[k].toNat:Int)==98)=false:=by rw [beq_eq_false_iff_ne];omega
    have q3:((f[k].toNat:Int)==116)=false:=by rw [beq_eq_false_iff_ne];omega
    have q4:((f[k].toNat:Int)==115)=false:=by rw [beq_eq_false_iff_ne];omega
    have q5:((f[k].toNat:Int)==99)=false:=by rw [beq_eq_false_iff_ne];omega
    have q6:((f[k].toNat:Int)==109)=false:=by rw [beq_eq_false_iff_ne];omega
    have q7:((f[k].toNat:Int)==42)=true:=by rw [beq_iff_eq];omega
    have q8:((f[k].toNat:Int) != 109)=true:=by rw [bne_iff_ne];omega
    have q9:((f[k].toNat:Int) != 42)=false:=by rw [bne_eq_false_iff_eq];omega
    clear hv hc hf2;have HN:=Nm.hide (Dt.pat_step hat (n:=d.size) (by show Dt.sz .rs d=some _;rw [Dt.sz]) (Dt.ext_all d));rw [Dt.ext_none] at HN;clear hat
    by_cases h0:d.size=0
    ·obtain⟨e1,e2⟩:=beq_empty h0;clear h0;go_wp2_with (first|(fail)|(at_builtin;refine wpList_append_own _ rfl (.tmp 96) (.tmp 98) 51 rfl w.heap.size 9 i0 (.string ByteArray.empty) 1 16 Tryz.underlying51 hi hz0 hz1 hz2 rfl (by decide) _ _ _ rfl (hown.alloc _) ⟨wr.heap.size,0,none⟩ 1 1 [.string d] rfl rfl (cell_new1 _ _ _) (Nm.one_cell _ rfl) (by unfold maxLen;omega) (by omega) (by simp;omega) ?_))
     ·intro v' w1 hown' hgrow _;have R:=own_step hsz hown hbel _ hown' hgrow;clear hown' hgrow hown hbel;go_wp2;go_roundw
      case rel=>exact⟨k+1,_,_,by omega,by go_num,rfl,by simp<;>omega,by have:=HPL.out;simp;omega,HN.out,R.1,R.2⟩
      case measure=>simp [intOf];omega
    ·obtain⟨e1,e2⟩:=not_empty (s:=d) (by omega);clear h0;go_wp2_with (first|(fail)|(at_builtin;refine wpList_append_own _ rfl (.tmp 96) (.tmp 98) 51 rfl w.heap.size 9 i0 (.string ByteArray.empty) 1 16 Tryz.underlying51 hi hz0 hz1 hz2 rfl (by decide) _ _ _ rfl (hown.alloc _) ⟨wr.heap.size,0,none⟩ 1 1 [.string d] rfl rfl (cell_new1 _ _ _) (Nm.one_cell _ rfl) (by unfold maxLen;omega) (by omega) (by simp;omega) ?_))
     ·intro v' w1 hown' hgrow _;have R:=own_step hsz hown hbel _ hown' hgrow;clear hown' hgrow hown hbel;go_wp2;go_roundw
      case rel=>exact⟨k+1,_,_,by omega,by go_num,rfl,by simp<;>omega,by have:=HPL.out;simp;omega,HN.out,R.1,R.2⟩
      case measure=>simp [intOf];omega
  ·have hlt':(f.size:Int)<=(k:Int):=by omega
   have hnil:(f.data.toList.map Dt.letP).drop k=[]:=List.drop_eq_nil_of_le (by simp;omega);rw [hnil] at hat;clear hf2 hnil
   by_cases h0:d.size=0
   ·have HN:=Nm.hide (Dt.pat_end hat h0);obtain⟨e1,e2⟩:=beq_empty h0;clear hat h0;go_wp2;go_ret2;rw [HN.out];exact⟨_,rfl,(fun qs h=>by cases h;exact hown),hbel⟩
   ·have HN:=Nm.hide (Dt.pat_left hat h0);obtain⟨e1,e2⟩:=not_empty (s:=d) (by omega);clear hat h0;go_wp2;go_ret2;rw [HN.out];exact⟨_,rfl,(fun ps h=>by cases h),hbel⟩
end Go.Proofs.YtmdinnjimioffaaGreat
