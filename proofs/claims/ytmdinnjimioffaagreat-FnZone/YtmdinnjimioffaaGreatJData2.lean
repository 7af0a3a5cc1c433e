import Derived.Test.YtmdinnjimioffaaGreatJData1
import Derived.Test.YtmdinnjimioffaaGreatJMath
import Derived.Test.YtmdinnjimioffaaGreatJCmpM
import Derived.Test.YtmdinnjimioffaaGreatRows
import Derived.WalkSpells
import Derived.WalkLawsBesides
import Derived.RegionTactic
import Derived.ChangeAlike
import Derived.BigRegion
import Derived.Test.YtmdinnjimioffaaGreatJOrdL
import Derived.Test.YtmdinnjimioffaaGreatOwnS
import Derived.Lib.AppendStr
namespace Go.Proofs.YtmdinnjimioffaaGreat
open Go.RowKit
theorem name_zero{s:ByteArray}{i:Nat}(h:i<s.size)(h2:i<255)(h0:s[i].toNat=0):Dt.nameF 256 s i=s.extract 0 (i+1):=by
 rw [Dt.nameF,dif_pos ⟨h,h2⟩,if_pos h0]
theorem name_big{s:ByteArray}{i:Nat}(h:i<s.size)(h2:i<255)(h0:63<s[i].toNat):Dt.nameF 256 s i=ByteArray.empty:=by
 rw [Dt.nameF,dif_pos ⟨h,h2⟩,if_neg (by omega),if_pos h0]
theorem name_step{s:ByteArray}{i:Nat}(h:i<s.size)(h2:i<255)(h0:s[i].toNat≠0)(h1:s[i].toNat<=63):Dt.nameF 256 s i=Dt.nameF 256 s (i+s[i].toNat+1):=by
 rw [Dt.nameF,dif_pos ⟨h,h2⟩,if_neg h0,if_neg (by omega)];exact Dt.nameF_enough _ _ _ _ (by omega) (by omega)
theorem name_end{s:ByteArray}{i:Nat}(h:¬(i<s.size∧i<255)):Dt.nameF 256 s i=ByteArray.empty:=by
 rw [Dt.nameF,dif_neg h]
set_option maxRecDepth 100000 in
set_option maxHeartbeats 800000 in
theorem l02NameAt_any(s:ByteArray)(w:World):
 Calls Tryz.prog 77 #[.string s] w fun e w'=>e=.returned (.string (Dt.nameAtS s))∧w'=w:=by
 have H0:Dt.nameAtS s=Dt.nameF 256 s 0:=rfl;go_enter Tryz.func77,Tryz.ntmps77;go_wp2
 go_loop [3] (fun v=>∃ i:Nat,i<=400∧v=.int .i64 i∧Dt.nameAtS s=Dt.nameF 256 s i) (fun v=>400-(intOf v).toNat)
 case atStart=>exact⟨0,by omega,rfl,H0⟩
 case round=>
  obtain⟨i,hi,rfl,hn⟩:=hrel;clear H0
  by_cases h1:i<s.size
  ·have h1':(i:Int)<(s.size:Int):=by omega
   by_cases h2:i<255
   ·have h2':(i:Int)<255:=by omega
    have hc:(s[i].toNat:Int)<256:=by have:=s[i].toNat_lt;omega
    by_cases h3:s[i].toNat=0
    ·have HN:=Nm.hide (hn.trans (name_zero h1 h2 h3));have h3':((s[i].toNat:Int)==0)=true:=by rw [beq_iff_eq];omega
     clear hn;go_wp2;go_ret;rw [HN.out];exact⟨rfl,rfl⟩
    ·have h3':((s[i].toNat:Int)==0)=false:=by rw [beq_eq_false_iff_ne];omega
     by_cases h4:63<s[i].toNat
     ·have HN:=Nm.hide (hn.trans (name_big h1 h2 h4));have h4':(63:Int)<(s[i].toNat:Int):=by omega
      clear hn;go_wp2;go_ret;rw [HN.out];exact⟨rfl,rfl⟩
     ·have HN:=Nm.hide (hn.trans (name_step h1 h2 h3 (by omega)));have h4':(s[i].toNat:Int)<=63:=by omega
      clear hn;go_wp2
      go_round
      case rel=>exact⟨i+s[i].toNat+1,by omega,by go_num,HN.out⟩
      case measure=>simp [intOf];omega
   ·have HN:=Nm.hide (hn.trans (name_end (by omega)));have h2':(255:Int)<=(i:Int):=by omega
    clear hn;go_wp2;go_ret;rw [HN.out];exact⟨rfl,rfl⟩
  ·have HN:=Nm.hide (hn.trans (name_end (by omega)));have h1':(s.size:Int)<=(i:Int):=by omega
   clear hn;go_wp2;go_ret;rw [HN.out];exact⟨rfl,rfl⟩
end Go.Proofs.YtmdinnjimioffaaGreat
namespace Go.Proofs.YtmdinnjimioffaaGreat
open Go.RowKit
set_option maxRecDepth 100000 in
set_option maxHeartbeats 800000 in
theorem l01Join_any(v:Value)(ls:List ByteArray)(w:World)(h:Nm.SRow w v ls)(hlen:Nm.wsum ls<=1000000000):
 Calls Tryz.prog 43 #[v] w fun e w'=>e=.returned (.string ⟨(Nm.joinL ls).toArray⟩)∧Below w.heap.size w w':=by
 obtain⟨a,cap,rfl,hcap,hmx,hnl,hc⟩:=h;have hll:=Nm.length_le_wsum ls;go_enter Tryz.func43,Tryz.ntmps43;go_wp2
 go_loopw [3,4] (fun t i wr=>∃ (k:Nat) (s:ByteArray),k<=ls.length∧i=.int .i64 k∧t=.string s∧Hid (s.data.toList=Nm.preL (ls.take k))∧Below w.heap.size w wr)
  (fun _ i _=>ls.length-(intOf i).toNat)
 case atStart=>exact⟨0,_,Nat.zero_le _,rfl,rfl,rfl,Below.refl _ _⟩
 case round=>
  obtain⟨k,s,hk,rfl,rfl,HS,hbel⟩:=hrel;have hw:=Nm.wsum_take_le ls k;have hsz:=hbel.size;have hss:s.size=Nm.wsum (ls.take k):=by rw [<- size_list,HS.out,Nm.preL_length]
  have hss':s.size<=1000000000:=by omega
  by_cases hlt:k<ls.length
  ·obtain⟨x,hx⟩:∃ x,ls[k]? =some x:=⟨_,List.getElem?_eq_getElem hlt⟩;obtain⟨b,off,rfl,hcell⟩:=hc (by intro h;rw [h] at hlt;simp at hlt);have hbk:b<wr.heap.size:=Nat.lt_of_lt_of_le (World.block_lt_of_cell? w _ (hcell k x hx)) hsz;have hcx:wr.cell? ⟨b,off+k,none⟩=some (.string x):=(hbel.cell (World.block_lt_of_cell? w _ (hcell k x hx))).trans (hcell k x hx);have HP:Hid (Nm.preL (ls.take (k+1))=Nm.preL (ls.take k)++(UInt8.ofNat x.size::x.data.toList)):=Nm.preL_step hx
   have hw1:s.size+(1+x.size)<=1000000000:=by
    have h1:=Nm.wsum_step hx;have h2:=Nm.wsum_take_le ls (k+1);omega
   have hcv:=fun n=>conv_one_drew n wr
   clear hx hcell hc hnl hss hw;go_wp2;go_region
   all_goals
    go_wp2;go_roundw
    case rel=>exact⟨k+1,_,by omega,by go_num,rfl,by show _=_;rw [HP.out,<- HS.out];simp [byte_mod],(hbel.alloc hsz _).drew⟩
    case measure=>simp [intOf];omega
  ·have hkl:k=ls.length:=by omega
   subst hkl;rw [List.take_length] at HS;clear hc hnl hw hlt hss;have hone:(ByteArray.mk #[0]).size=1:=rfl;go_wp2;go_ret;exact⟨ret_str (ba_ext (by simp [Nm.joinL,HS.out])),hbel⟩
end Go.Proofs.YtmdinnjimioffaaGreat
namespace Go.Proofs.YtmdinnjimioffaaGreat
open Go.RowKit
set_option maxRecDepth 100000 in
set_option maxHeartbeats 1600000 in
theorem l01Label_any(g:Nat)(a:Option Addr)(n cap:Nat)(w:World)(h:Src w g a n cap):
 Calls Tryz.prog 39 #[.pointer (some ⟨g,0,none⟩)] w fun e w'=>∃ s:ByteArray,e=.returned (.string s)∧s.size<=63∧Src w' g a n cap∧w.grownBy w' (some g):=by
 have hcv:=fun(x:Int) (W:World)=>conv_one x W
 have hs1:∀ c:UInt8,(ByteArray.mk #[c]).size=1:=fun _=>rfl
 have hs2:(ByteArray.mk #[110,115]).size=2:=rfl;go_enter Tryz.func39,Tryz.ntmps39;go_wp2_with fail
 refine(l01Next_any g a n cap 12 _ h (by decide)).mono ?_;rintro e w1 ⟨r,rfl,hr0,hr1,hsrc,hgr⟩;have hr2:=hr1 (by decide);clear hr1 h
 rcases(by omega:r=0∨r=1∨r=2∨r=3∨r=4∨r=5∨6<=r) with rfl|rfl|rfl|rfl|rfl|rfl|h6
 ·go_wp2;go_ret;exact⟨_,rfl,by decide,hsrc,hgr⟩
 ·go_wp2_with (first|(go_at_call 14;refine(l01Next_any g a n cap 4 _ hsrc (by decide)).mono ?_;rintro e w2 ⟨q,rfl,hq0,hq1,hsrc2,hgr2⟩;have hq2:=hq1 (by decide);clear hq1)|(go_at_call 37;refine(l01Bytes_any g a n cap (1+q) _ hsrc2 (by omega) (by omega)).mono ?_;rintro e w3 ⟨s3,rfl,hs3,hsrc3,hgr3⟩))
  go_ret;exact⟨_,rfl,by omega,hsrc3,grown_step (grown_step hgr hgr2) hgr3⟩
 ·go_wp2;go_ret;exact⟨_,rfl,by decide,hsrc,hgr⟩
 ·go_wp2;go_ret;exact⟨_,rfl,by decide,hsrc,hgr⟩
 ·go_wp2;go_ret;exact⟨_,rfl,by decide,hsrc,hgr⟩
 ·go_wp2_with (go_at_call 14;refine(l01Next_any g a n cap 3 _ hsrc (by decide)).mono ?_;rintro e w2 ⟨q,rfl,hq0,hq1,hsrc2,hgr2⟩;have hq2:=hq1 (by decide);clear hq1)
  go_ret;exact⟨_,rfl,by rw [ByteArray.size_append,hs2,hs1];decide,src_below hsrc2 ((Below.refl _ _).alloc (Nat.le_refl _) _),grown_alloc (grown_step hgr hgr2) _⟩
 ·go_wp2_with (go_at_call 14;refine(l01Next_any g a n cap 4 _ hsrc (by decide)).mono ?_;rintro e w2 ⟨q,rfl,hq0,hq1,hsrc2,hgr2⟩;have hq2:=hq1 (by decide);clear hq1)
  go_ret;exact⟨_,rfl,by rw [hs1];decide,src_below hsrc2 ((Below.refl _ _).alloc (Nat.le_refl _) _),grown_alloc (grown_step hgr hgr2) _⟩
end Go.Proofs.YtmdinnjimioffaaGreat
namespace Go.Proofs.YtmdinnjimioffaaGreat
open Go.RowKit
set_option linter.unusedVariables false
def szOf:Value->Nat
 |.string s=>s.size
 |_=>0
set_option maxRecDepth 100000 in
set_option maxHeartbeats 1600000 in
theorem l03Six_any(g:Nat)(a:Option Addr)(n cap:Nat)(w:World)(h:Src w g a n cap):
 Calls Tryz.prog 75 #[.pointer (some ⟨g,0,none⟩)] w fun e w'=>∃ s:ByteArray,e=.returned (.string s)∧s.size=16∧Src w' g a n cap∧w.grownBy w' (some g):=by
 have z2:(ByteArray.mk #[0,0]).size=2:=rfl;have z1:(ByteArray.mk #[0]).size=1:=rfl;go_enter Tryz.func75,Tryz.ntmps75;go_wp2
 go_loopw [3] (fun v wr=>∃ (k:Nat) (s:ByteArray),k<=8∧v=.string s∧Hid (s.size=2*k)∧Src wr g a n cap∧w.grownBy wr (some g))
  (fun v _=>16-szOf v)
 case atStart=>exact⟨0,⟨#[]⟩,by omega,rfl,rfl,h,World.grownBy.refl _ _⟩
 case round=>
  obtain⟨k,s,hk,rfl,HZ,hsrc,hgr⟩:=hrel;clear h
  by_cases hlt:k<8
  ·have hlt':(s.size:Int)<16:=by have:=HZ.out;omega
   go_wp2_with fail
   refine(l01Bytes_any g a n cap 2 _ hsrc (by decide) (by decide)).mono ?_;rintro e w2 ⟨t,rfl,ht,hs2,hg2⟩;have ht2:t.size=2:=by omega
   have ht1:(1:Int)<=(t.size:Int):=by omega
   go_wp2_with fail
   refine(l01Next_any g a n cap 2 _ hs2 (by decide)).mono ?_;rintro e w3 ⟨q,rfl,hq0,hq1,hs3,hg3⟩;clear hq1;have G3:=grown_step (grown_step hgr hg2) hg3;clear hg2 hg3 hgr hs2 hsrc
   by_cases hq:q=0
   ·subst hq;go_wp2_with fail
    refine(l01Next_any g a n cap 4 _ hs3 (by decide)).mono ?_;rintro e w4 ⟨p,rfl,hp0,hp1,hs4,hg4⟩;clear hp1;have G4:=grown_step G3 hg4;clear hs3 G3 hg4
    by_cases hp:p=0
    ·subst hp;go_wp2;go_roundw
     case rel=>exact⟨k+1,_,by omega,rfl,by show ByteArray.size _=_;rw [ByteArray.size_append,ByteArray.size_append,ByteArray.size_extract,z1,z2,HZ.out];omega,hs4,G4⟩
     case measure=>simp only [szOf];rw [ByteArray.size_append,ByteArray.size_append,ByteArray.size_extract,z1,z2,HZ.out];omega
    ·have hp':(p==0)=false:=by rw [beq_eq_false_iff_ne];exact hp
     go_wp2;go_roundw
     case rel=>exact⟨k+1,_,by omega,rfl,by show ByteArray.size _=_;rw [ByteArray.size_append,z2,HZ.out];omega,hs4,G4⟩
     case measure=>simp only [szOf];rw [ByteArray.size_append,z2,HZ.out];omega
   ·have hq':(q==0)=false:=by rw [beq_eq_false_iff_ne];exact hq
    have HT:=Nm.hide ht2;clear ht2;go_wp2_with fail
    refine(l01Next_any g a n cap 4 _ hs3 (by decide)).mono ?_;rintro e w4 ⟨p,rfl,hp0,hp1,hs4,hg4⟩;clear hp1;have G4:=grown_step G3 hg4;clear hs3 G3 hg4
    by_cases hp:p=0
    ·subst hp;go_wp2;go_roundw
     case rel=>exact⟨k+1,_,by omega,rfl,by show ByteArray.size _=_;rw [ByteArray.size_append,ByteArray.size_append,ByteArray.size_extract,z1,HT.out,HZ.out];omega,hs4,G4⟩
     case measure=>simp only [szOf];rw [ByteArray.size_append,ByteArray.size_append,ByteArray.size_extract,z1,HT.out,HZ.out];omega
    ·have hp':(p==0)=false:=by rw [beq_eq_false_iff_ne];exact hp
     go_wp2;go_roundw
     case rel=>exact⟨k+1,_,by omega,rfl,by show ByteArray.size _=_;rw [ByteArray.size_append,HT.out,HZ.out];omega,hs4,G4⟩
     case measure=>simp only [szOf];rw [ByteArray.size_append,HT.out,HZ.out];omega
  ·have hke:k=8:=by omega
   subst hke;have hlt':(16:Int)<=(s.size:Int):=by have:=HZ.out;omega
   go_wp2;go_ret;exact⟨s,rfl,by have:=HZ.out;omega,hsrc,hgr⟩
end Go.Proofs.YtmdinnjimioffaaGreat
namespace Go.Proofs.YtmdinnjimioffaaGreat
open Go.RowKit
set_option maxRecDepth 100000 in
set_option maxHeartbeats 1600000 in
theorem l01LabelV_any(g:Nat)(a:Option Addr)(n cap:Nat)(w:World)(h:Src w g a n cap):
 Calls Tryz.prog 39 #[.pointer (some ⟨g,0,none⟩)] w fun e w'=>∃ s:ByteArray,e=.returned (.string s)∧(1<=s.size∧s.size<=4)∧Src w' g a n cap∧w.grownBy w' (some g):=by
 have hcv:=fun(x:Int) (W:World)=>conv_one x W
 have hs1:∀ c:UInt8,(ByteArray.mk #[c]).size=1:=fun _=>rfl
 have hs2:(ByteArray.mk #[110,115]).size=2:=rfl;go_enter Tryz.func39,Tryz.ntmps39;go_wp2_with fail
 refine(l01Next_any g a n cap 12 _ h (by decide)).mono ?_;rintro e w1 ⟨r,rfl,hr0,hr1,hsrc,hgr⟩;have hr2:=hr1 (by decide);clear hr1 h
 rcases(by omega:r=0∨r=1∨r=2∨r=3∨r=4∨r=5∨6<=r) with rfl|rfl|rfl|rfl|rfl|rfl|h6
 ·go_wp2;go_ret;exact⟨_,rfl,⟨by decide,by decide⟩,hsrc,hgr⟩
 ·go_wp2_with (first|(go_at_call 14;refine(l01Next_any g a n cap 4 _ hsrc (by decide)).mono ?_;rintro e w2 ⟨q,rfl,hq0,hq1,hsrc2,hgr2⟩;have hq2:=hq1 (by decide);clear hq1)|(go_at_call 37;refine(l01Bytes_any g a n cap (1+q) _ hsrc2 (by omega) (by omega)).mono ?_;rintro e w3 ⟨s3,rfl,hs3,hsrc3,hgr3⟩))
  go_ret;exact⟨_,rfl,⟨by omega,by omega⟩,hsrc3,grown_step (grown_step hgr hgr2) hgr3⟩
 ·go_wp2;go_ret;exact⟨_,rfl,⟨by decide,by decide⟩,hsrc,hgr⟩
 ·go_wp2;go_ret;exact⟨_,rfl,⟨by decide,by decide⟩,hsrc,hgr⟩
 ·go_wp2;go_ret;exact⟨_,rfl,⟨by decide,by decide⟩,hsrc,hgr⟩
 ·go_wp2_with (go_at_call 14;refine(l01Next_any g a n cap 3 _ hsrc (by decide)).mono ?_;rintro e w2 ⟨q,rfl,hq0,hq1,hsrc2,hgr2⟩;have hq2:=hq1 (by decide);clear hq1)
  go_ret;exact⟨_,rfl,⟨by rw [ByteArray.size_append,hs2,hs1];decide,by rw [ByteArray.size_append,hs2,hs1];decide⟩,src_below hsrc2 ((Below.refl _ _).alloc (Nat.le_refl _) _),grown_alloc (grown_step hgr hgr2) _⟩
 ·go_wp2_with (go_at_call 14;refine(l01Next_any g a n cap 4 _ hsrc (by decide)).mono ?_;rintro e w2 ⟨q,rfl,hq0,hq1,hsrc2,hgr2⟩;have hq2:=hq1 (by decide);clear hq1)
  go_ret;exact⟨_,rfl,⟨by rw [hs1];decide,by rw [hs1];decide⟩,src_below hsrc2 ((Below.refl _ _).alloc (Nat.le_refl _) _),grown_alloc (grown_step hgr hgr2) _⟩
end Go.Proofs.YtmdinnjimioffaaGreat
namespace Go.Proofs.YtmdinnjimioffaaGreat
open Go.RowKit
theorem put2_step{W wr w1:World}{v v':Value}{B e n:Nat}{l:List Value}{x:Value}(hB:B<=wr.heap.size)
 (hown:wr.ownsRow B e 1 v n l) (hbel:Below B W wr) (o:Obj) (hgrow:(wr.alloc o).grownBy w1 v.ownBlock)
 (hown':w1.ownsRow B e 1 v' (n+1) (l++[x])):
 w1.ownsRow B e 1 v' (n+1) (l++[x])∧Below B W w1:=by
 refine⟨hown',?_⟩;refine(hbel.alloc hB o).grown hgrow (by simp;omega) ?_;intro k hk;exact(hown.lt k hk).1
end Go.Proofs.YtmdinnjimioffaaGreat
namespace Go.Proofs.YtmdinnjimioffaaGreat
open Go.RowKit
theorem put_step{W wr w1:World}{v v':Value}{B e n:Nat}{l:List Value}{x:Value}(hB:B<=wr.heap.size)
 (hown:wr.ownsRow B e 1 v n l) (hbel:Below B W wr) (o:Obj) (hgrow:(wr.alloc o).grownBy w1 v.ownBlock)
 (hown':w1.ownsRow B e 1 v' (n+1) (l++[x])):
 w1.ownsRow B e 1 v' (n+1) (l++[x])∧Below B W w1:=by
 refine⟨hown',?_⟩;refine(hbel.alloc hB o).grown hgrow (by simp;omega) ?_;intro k hk;exact(hown.lt k hk).1
end Go.Proofs.YtmdinnjimioffaaGreat
