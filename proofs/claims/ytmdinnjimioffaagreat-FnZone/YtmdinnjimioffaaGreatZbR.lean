import Derived.Test.YtmdinnjimioffaaGreatJTrD
import Derived.Test.YtmdinnjimioffaaGreatJTrM
import Derived.Test.YtmdinnjimioffaaGreatJTrE
import Derived.Deep.RegionHeld3
namespace Go.Proofs.YtmdinnjimioffaaGreat
open Go.RowKit
set_option linter.unusedVariables false
theorem rul1{l:List It}{fo:ByteArray}{i:Nat}(h:firstI (ru1 l fo) l=some i):rulesI l fo=(20,(i:Int)):=by rw [rulesI_eq,h]
theorem rul2{l:List It}{fo:ByteArray}(h:firstI (ru1 l fo) l=none)(h2:hasI l fo 6=false):rulesI l fo=(20,-1):=by rw [rulesI_eq,h,h2];rfl
theorem rul3{l:List It}{fo:ByteArray}(h:firstI (ru1 l fo) l=none)(h2:hasI l fo 6=true)(h3:hasI l fo 2=false):rulesI l fo=(21,-1):=by rw [rulesI_eq,h,h2,h3];rfl
def Rok(l:List It)(fo:ByteArray):Prop:=firstI (ru1 l fo) l=none∧hasI l fo 6=true∧hasI l fo 2=true
theorem rul4{l:List It}{fo:ByteArray}{i:Nat}(h:Rok l fo)(h4:firstI (fun _ x=>ru2 x) l=some i):rulesI l fo=(26,(i:Int)):=by
 rw [rulesI_eq,h.1,h.2.1,h.2.2,h4];rfl
theorem rul5{l:List It}{fo:ByteArray}{i:Nat}(h:Rok l fo)(h4:firstI (fun _ x=>ru2 x) l=none)(h5:firstI (ru3 l) l=some i):rulesI l fo=(23,(i:Int)):=by
 rw [rulesI_eq,h.1,h.2.1,h.2.2,h4,h5];rfl
theorem rul6{l:List It}{fo:ByteArray}{i:Nat}(h:Rok l fo)(h4:firstI (fun _ x=>ru2 x) l=none)(h5:firstI (ru3 l) l=none)(h6:firstI (fun _ x=>ru4 l x) l=some i):rulesI l fo=(23,(i:Int)):=by
 rw [rulesI_eq,h.1,h.2.1,h.2.2,h4,h5,h6];rfl
theorem rul7{l:List It}{fo:ByteArray}{i:Nat}(h:Rok l fo)(h4:firstI (fun _ x=>ru2 x) l=none)(h5:firstI (ru3 l) l=none)(h6:firstI (fun _ x=>ru4 l x) l=none)(h7:firstI (fun _ x=>ru5 l x) l=some i):rulesI l fo=(25,(i:Int)):=by
 rw [rulesI_eq,h.1,h.2.1,h.2.2,h4,h5,h6,h7];rfl
theorem rul8{l:List It}{fo:ByteArray}(h:Rok l fo)(h4:firstI (fun _ x=>ru2 x) l=none)(h5:firstI (ru3 l) l=none)(h6:firstI (fun _ x=>ru4 l x) l=none)(h7:firstI (fun _ x=>ru5 l x) l=none):rulesI l fo=(0,0):=by
 rw [rulesI_eq,h.1,h.2.1,h.2.2,h4,h5,h6,h7];rfl
set_option maxRecDepth 100000 in
set_option maxHeartbeats 6400000 in
theorem l06Rules_any(v:Value)(l:List It)(apex:ByteArray)(w:World)(h:CRow w v l.length 8 (itCs l))(hl:l.length<=1000000)(ha:apex.size<=maxLen)(hfo:∀ x∈l,x.fo.size<=maxLen):
 Calls Tryz.prog 25 #[v,.string apex] w fun e w'=>e=.returned (.tuple #[.int .i64 (rulesI l (Nm.foldS apex)).1,.int .i64 (rulesI l (Nm.foldS apex)).2])∧Below w.heap.size w w':=by
 have hF:=specFoldName_any apex w ha;obtain⟨fo,hfe⟩:∃ fo,Nm.foldS apex=fo:=⟨_,rfl⟩;rw [hfe] at hF ⊢;clear hfe;have HROW:=Nm.hide h;obtain⟨_,a,cap,rfl,hcap,hmx,hc⟩:=h;unfold maxLen at hmx;clear hc;go_enter Tryz.func25,Tryz.ntmps25;go_wp2_with (go_at_call 22;refine hF.mono ?_;rintro e w1 ⟨rfl,hbel⟩)
 have HR:=Nm.hide (HROW.out.below hbel);clear hF HROW
 go_loop [7] (fun i=>∃ k:Nat,k<=l.length∧i=.int .i64 k∧Hid (∀ (j:Nat) (y:It),j<k->l[j]? =some y->ru1 l fo j y=false)) (fun i=>l.length-(intOf i).toNat)
 case atStart=>exact⟨0,Nat.zero_le _,rfl,by show ∀ _,_;intro j y hj;omega⟩
 case round=>
  obtain⟨k,hk,rfl,HA⟩:=hrel
  by_cases hlt:k<l.length
  ·obtain⟨x,hxk⟩:∃ x,l[k]? =some x:=⟨_,List.getElem?_eq_getElem hlt⟩;have hH:=l06Has_any (.slice a l.length cap) l k fo 6 w1 HR.out (by omega) hl
   have HRU:Hid (ru1 l fo k x=(!x.out&&(x.r.ty==6)&&(!(x.fo.toList==fo.toList)||hasI (l.take k) fo 6))):=by
    show _=_
    rw [ru1,ba_eq]
    by_cases h:x.r.ty=6<;>simp [h]
   obtain⟨_,a',cap',e',_,_,hc⟩:=HR.out;simp only [Value.slice.injEq] at e';obtain⟨rfl,_,rfl⟩:=e';obtain⟨b,off,rfl,hcell⟩:=hc (by omega);obtain⟨c0,c1,c2,c3,c4,c5,c6,c7⟩:=it_cells hcell hxk;have HX:=Nm.hide hxk;have i1:(0:Int)<=(k:Int):=by omega
   have i2:(k:Int)<(l.length:Int):=by omega
   clear hcell hc hxk c0 c2 c3 c4 c6;generalize hasI (l.take k) fo 6=HAS at*
   cases hO:x.out with
   |true=>
    have HN:Hid (ru1 l fo k x=false):=by show _=_;rw [HRU.out,hO];rfl
    rw [hO] at c7;go_wp2
    go_round
    case rel=>exact⟨k+1,by omega,by go_num,first_next HA.out HX.out HN.out⟩
    case measure=>simp [intOf];omega
   |false=>
    rw [hO] at c7
    cases hT:(x.r.ty==6) with
    |false=>
     have HN:Hid (ru1 l fo k x=false):=by show _=_;rw [HRU.out,hO,hT];rfl
     go_wp2
     go_round
     case rel=>exact⟨k+1,by omega,by go_num,first_next HA.out HX.out HN.out⟩
     case measure=>simp [intOf];omega
    |true=>
     cases hE:(x.fo.toList==fo.toList) with
     |false=>
      have nE:(x.fo.toList != fo.toList)=true:=by rw [bne,hE];rfl
      have HE:Hid (rulesI l fo=(20,(k:Int))):=rul1 (firstI_at (fun i hi y hy=>HA.out i y hi hy) HX.out (by rw [HRU.out,hO,hT,hE];rfl));go_wp2;go_ret2
      exact⟨by rw [HE.out];rfl,hbel⟩
     |true=>
      have nE:(x.fo.toList != fo.toList)=false:=by rw [bne,hE];rfl
      cases HAS with
      |false=>
       have HN:Hid (ru1 l fo k x=false):=by show _=_;rw [HRU.out,hO,hT,hE];rfl
       go_wp2_with (go_at_call 52;refine hH.mono ?_;rintro e wq ⟨rfl,hwq⟩;obtain rfl:=hwq.symm)
       go_round
       case rel=>exact⟨k+1,by omega,by go_num,first_next HA.out HX.out HN.out⟩
       case measure=>simp [intOf];omega
      |true=>
       have HE:Hid (rulesI l fo=(20,(k:Int))):=rul1 (firstI_at (fun i hi y hy=>HA.out i y hi hy) HX.out (by rw [HRU.out,hO,hT,hE];rfl));go_wp2_with (go_at_call 52;refine hH.mono ?_;rintro e wq ⟨rfl,hwq⟩;obtain rfl:=hwq.symm)
       go_ret2;exact⟨by rw [HE.out];rfl,hbel⟩
  ·obtain rfl:k=l.length:=by omega
   have H1:Hid (firstI (ru1 l fo) l=none):=firstI_no (fun i hi y hy=>HA.out i y hi hy);have h6:=l06Has_any (.slice a l.length cap) l l.length fo 6 w1 HR.out (by omega) hl;have h2:=l06Has_any (.slice a l.length cap) l l.length fo 2 w1 HR.out (by omega) hl;rw [List.take_length] at h6 h2;have i3:(l.length:Int)<=(l.length:Int):=by omega
   clear HA
   cases hS6:hasI l fo 6 with
   |false=>
    have HE:Hid (rulesI l fo=(20,-1)):=rul2 H1.out hS6;rw [hS6] at h6;clear hS6 h2;go_wp2_with (go_at_call 52;refine h6.mono ?_;rintro e wq ⟨rfl,hwq⟩;obtain rfl:=hwq.symm)
    go_ret2
    exact⟨by rw [HE.out];rfl,hbel⟩
   |true=>
    rw [hS6] at h6
    cases hS2:hasI l fo 2 with
    |false=>
     have HE:Hid (rulesI l fo=(21,-1)):=rul3 H1.out hS6 hS2;rw [hS2] at h2;clear hS6 hS2;go_wp2_with fail
     refine h6.mono ?_;rintro e wq ⟨rfl,hwq⟩;obtain rfl:=hwq.symm;go_wp2_with fail
     refine h2.mono ?_;rintro e wq ⟨rfl,hwq⟩;obtain rfl:=hwq.symm;go_wp2;go_ret2
     exact⟨by rw [HE.out];rfl,hbel⟩
    |true=>
     have HOK:Hid (Rok l fo):=⟨H1.out,hS6,hS2⟩;rw [hS2] at h2;clear hS6 hS2 H1;go_wp2_with fail
     refine h6.mono ?_;rintro e wq ⟨rfl,hwq⟩;obtain rfl:=hwq.symm;go_wp2_with fail
     refine h2.mono ?_;rintro e wq ⟨rfl,hwq⟩;obtain rfl:=hwq.symm;clear h6 h2;go_wp2
     go_loop [8] (fun i=>∃ k:Nat,k<=l.length∧i=.int .i64 k∧Hid (∀ (j:Nat) (y:It),j<k->l[j]? =some y->ru2 y=false)) (fun i=>l.length-(intOf i).toNat)
     case atStart=>exact⟨0,Nat.zero_le _,rfl,by show ∀ _,_;intro j y hj;omega⟩
     case round=>
      clear hk hlt i3;obtain⟨k,hk,rfl,HA⟩:=hrel
      by_cases hlt:k<l.length
      ·obtain⟨x,hxk⟩:∃ x,l[k]? =some x:=⟨_,List.getElem?_eq_getElem hlt⟩;have hS:=l06Starred_any x.fo w1 (hfo x (List.mem_of_getElem? hxk))
       have HRU:Hid (ru2 x=(!x.out&&starB x.fo&&((x.r.ty==2)||(x.r.ty==39)))):=by
        show _=_
        rw [ru2]
        by_cases h:x.r.ty=2<;>by_cases h':x.r.ty=39<;>simp [h,h']
       obtain⟨_,a',cap',e',_,_,hc⟩:=HR.out;simp only [Value.slice.injEq] at e';obtain⟨rfl,_,rfl⟩:=e';obtain⟨b,off,rfl,hcell⟩:=hc (by omega);obtain⟨c0,c1,c2,c3,c4,c5,c6,c7⟩:=it_cells hcell hxk;have HX:=Nm.hide hxk;have i1:(0:Int)<=(k:Int):=by omega
       have i2:(k:Int)<(l.length:Int):=by omega
       clear hcell hc hxk c0 c2 c3 c4 c6;generalize starB x.fo=HAS at*
       cases hO:x.out with
       |true=>
        have HN:Hid (ru2 x=false):=by show _=_;rw [HRU.out,hO];rfl
        rw [hO] at c7;go_wp2
        go_round
        case rel=>exact⟨k+1,by omega,by go_num,first_next (p:=fun _ y=>ru2 y) HA.out HX.out HN.out⟩
        case measure=>simp [intOf];omega
       |false=>
        rw [hO] at c7
        cases HAS with
        |false=>
         have HN:Hid (ru2 x=false):=by show _=_;rw [HRU.out,hO];rfl
         go_wp2_with (go_at_call 53;refine hS.mono ?_;rintro e wq ⟨rfl,hwq⟩;obtain rfl:=hwq.symm)
         go_round
         case rel=>exact⟨k+1,by omega,by go_num,first_next (p:=fun _ y=>ru2 y) HA.out HX.out HN.out⟩
         case measure=>simp [intOf];omega
        |true=>
         cases hT:(x.r.ty==2) with
         |true=>
          have HE:Hid (rulesI l fo=(26,(k:Int))):=rul4 HOK.out (firstI_at (fun i hi y hy=>HA.out i y hi hy) HX.out (by rw [HRU.out,hO,hT];rfl));go_wp2_with (go_at_call 53;refine hS.mono ?_;rintro e wq ⟨rfl,hwq⟩;obtain rfl:=hwq.symm)
          go_ret2
          exact⟨by rw [HE.out];rfl,hbel⟩
         |false=>
          cases hT2:(x.r.ty==39) with
          |true=>
           have HE:Hid (rulesI l fo=(26,(k:Int))):=rul4 HOK.out (firstI_at (fun i hi y hy=>HA.out i y hi hy) HX.out (by rw [HRU.out,hO,hT,hT2];rfl));go_wp2_with (go_at_call 53;refine hS.mono ?_;rintro e wq ⟨rfl,hwq⟩;obtain rfl:=hwq.symm)
           go_ret2
           exact⟨by rw [HE.out];rfl,hbel⟩
          |false=>
           have HN:Hid (ru2 x=false):=by show _=_;rw [HRU.out,hO,hT,hT2];rfl
           go_wp2_with (go_at_call 53;refine hS.mono ?_;rintro e wq ⟨rfl,hwq⟩;obtain rfl:=hwq.symm)
           go_round
           case rel=>exact⟨k+1,by omega,by go_num,first_next (p:=fun _ y=>ru2 y) HA.out HX.out HN.out⟩
           case measure=>simp [intOf];omega
      ·obtain rfl:k=l.length:=by omega
       have H2:Hid (firstI (fun _ x=>ru2 x) l=none):=firstI_no (fun i hi y hy=>HA.out i y hi hy);have i3:(l.length:Int)<=(l.length:Int):=by omega
       clear HA;go_wp2
       go_loop [10] (fun i=>∃ k:Nat,k<=l.length∧i=.int .i64 k∧Hid (∀ (j:Nat) (y:It),j<k->l[j]? =some y->ru3 l j y=false)) (fun i=>l.length-(intOf i).toNat)
       case atStart=>exact⟨0,Nat.zero_le _,rfl,by show ∀ _,_;intro j y hj;omega⟩
       case round=>
        clear hk hlt i3;obtain⟨k,hk,rfl,HA⟩:=hrel
        by_cases hlt:k<l.length
        ·obtain⟨x,hxk⟩:∃ x,l[k]? =some x:=⟨_,List.getElem?_eq_getElem hlt⟩;have hH:=l06Has_any (.slice a l.length cap) l k x.fo x.r.ty w1 HR.out (by omega) hl
         have HRU:Hid (ru3 l k x=(!x.out&&((x.r.ty==5)||(x.r.ty==39))&&hasI (l.take k) x.fo x.r.ty)):=by
          show _=_
          rw [ru3]
          by_cases h:x.r.ty=5<;>by_cases h':x.r.ty=39<;>simp [h,h']
         obtain⟨_,a',cap',e',_,_,hc⟩:=HR.out;simp only [Value.slice.injEq] at e';obtain⟨rfl,_,rfl⟩:=e';obtain⟨b,off,rfl,hcell⟩:=hc (by omega);obtain⟨c0,c1,c2,c3,c4,c5,c6,c7⟩:=it_cells hcell hxk;have HX:=Nm.hide hxk;have i1:(0:Int)<=(k:Int):=by omega
         have i2:(k:Int)<(l.length:Int):=by omega
         clear hcell hc hxk c0 c2 c3 c4 c6;generalize hasI (l.take k) x.fo x.r.ty=HAS at*
         cases hO:x.out with
         |true=>
          have HN:Hid (ru3 l k x=false):=by show _=_;rw [HRU.out,hO];rfl
          rw [hO] at c7;go_wp2
          go_round
          case rel=>exact⟨k+1,by omega,by go_num,first_next HA.out HX.out HN.out⟩
          case measure=>simp [intOf];omega
         |false=>
          rw [hO] at c7
          cases hT:(x.r.ty==5) with
          |true=>
           cases HAS with
           |false=>
            have HN:Hid (ru3 l k x=false):=by show _=_;rw [HRU.out,hO,hT];rfl
            go_wp2_with (go_at_call 52;refine hH.mono ?_;rintro e wq ⟨rfl,hwq⟩;obtain rfl:=hwq.symm)
            go_round
            case rel=>exact⟨k+1,by omega,by go_num,first_next HA.out HX.out HN.out⟩
            case measure=>simp [intOf];omega
           |true=>
            have HE:Hid (rulesI l fo=(23,(k:Int))):=rul5 HOK.out H2.out (firstI_at (fun i hi y hy=>HA.out i y hi hy) HX.out (by rw [HRU.out,hO,hT];rfl));go_wp2_with (go_at_call 52;refine hH.mono ?_;rintro e wq ⟨rfl,hwq⟩;obtain rfl:=hwq.symm)
            go_ret2
            exact⟨by rw [HE.out];rfl,hbel⟩
          |false=>
           cases hT2:(x.r.ty==39) with
           |true=>
            cases HAS with
            |false=>
             have HN:Hid (ru3 l k x=false):=by show _=_;rw [HRU.out,hO,hT,hT2];rfl
             go_wp2_with (go_at_call 52;refine hH.mono ?_;rintro e wq ⟨rfl,hwq⟩;obtain rfl:=hwq.symm)
             go_round
             case rel=>exact⟨k+1,by omega,by go_num,first_next HA.out HX.out HN.out⟩
             case measure=>simp [intOf];omega
            |true=>
             have HE:Hid (rulesI l fo=(23,(k:Int))):=rul5 HOK.out H2.out (firstI_at (fun i hi y hy=>HA.out i y hi hy) HX.out (by rw [HRU.out,hO,hT,hT2];rfl));go_wp2_with (go_at_call 52;refine hH.mono ?_;rintro e wq ⟨rfl,hwq⟩;obtain rfl:=hwq.symm)
             go_ret2
             exact⟨by rw [HE.out];rfl,hbel⟩
           |false=>
            have HN:Hid (ru3 l k x=false):=by show _=_;rw [HRU.out,hO,hT,hT2];rfl
            go_wp2
            go_round
            case rel=>exact⟨k+1,by omega,by go_num,first_next HA.out HX.out HN.out⟩
            case measure=>simp [intOf];omega
        ·obtain rfl:k=l.length:=by omega
         have H3:Hid (firstI (ru3 l) l=none):=firstI_no (fun i hi y hy=>HA.out i y hi hy);have i3:(l.length:Int)<=(l.length:Int):=by omega
         clear HA;go_wp2
         go_loop [12] (fun i=>∃ k:Nat,k<=l.length∧i=.int .i64 k∧Hid (∀ (j:Nat) (y:It),j<k->l[j]? =some y->ru4 l y=false)) (fun i=>l.length-(intOf i).toNat)
         case atStart=>exact⟨0,Nat.zero_le _,rfl,by show ∀ _,_;intro j y hj;omega⟩
         case round=>
          clear hk hlt i3;obtain⟨k,hk,rfl,HA⟩:=hrel
          by_cases hlt:k<l.length
          ·obtain⟨x,hxk⟩:∃ x,l[k]? =some x:=⟨_,List.getElem?_eq_getElem hlt⟩;have hH:=l06Has_any (.slice a l.length cap) l l.length x.fo 5 w1 HR.out (by omega) hl;rw [List.take_length] at hH
           have HRU:Hid (ru4 l x=(!x.out&&(x.r.ty != 5)&&(x.r.ty != 47)&&hasI l x.fo 5)):=by
            show _=_
            have e5:(x.r.ty != 5)=decide (x.r.ty≠5):=by by_cases h:x.r.ty=5<;>simp [h]
            have e47:(x.r.ty != 47)=decide (x.r.ty≠47):=by by_cases h:x.r.ty=47<;>simp [h]
            rw [ru4,e5,e47]
           obtain⟨_,a',cap',e',_,_,hc⟩:=HR.out;simp only [Value.slice.injEq] at e';obtain⟨rfl,_,rfl⟩:=e';obtain⟨b,off,rfl,hcell⟩:=hc (by omega);obtain⟨c0,c1,c2,c3,c4,c5,c6,c7⟩:=it_cells hcell hxk;have HX:=Nm.hide hxk;have i1:(0:Int)<=(k:Int):=by omega
           have i2:(k:Int)<(l.length:Int):=by omega
           clear hcell hc hxk c0 c2 c3 c4 c6;generalize hasI l x.fo 5=HAS at*
           cases hO:x.out with
           |true=>
            have HN:Hid (ru4 l x=false):=by show _=_;rw [HRU.out,hO];rfl
            rw [hO] at c7;go_wp2
            go_round
            case rel=>exact⟨k+1,by omega,by go_num,first_next (p:=fun _ y=>(ru4 l) y) HA.out HX.out HN.out⟩
            case measure=>simp [intOf];omega
           |false=>
            rw [hO] at c7
            cases hT:(x.r.ty != 5) with
            |false=>
             have HN:Hid (ru4 l x=false):=by show _=_;rw [HRU.out,hO,hT];rfl
             go_wp2
             go_round
             case rel=>exact⟨k+1,by omega,by go_num,first_next (p:=fun _ y=>(ru4 l) y) HA.out HX.out HN.out⟩
             case measure=>simp [intOf];omega
            |true=>
             cases hT2:(x.r.ty != 47) with
             |false=>
              have HN:Hid (ru4 l x=false):=by show _=_;rw [HRU.out,hO,hT,hT2];rfl
              go_wp2
              go_round
              case rel=>exact⟨k+1,by omega,by go_num,first_next (p:=fun _ y=>(ru4 l) y) HA.out HX.out HN.out⟩
              case measure=>simp [intOf];omega
             |true=>
              cases HAS with
              |false=>
               have HN:Hid (ru4 l x=false):=by show _=_;rw [HRU.out,hO,hT,hT2];rfl
               go_wp2_with (go_at_call 52;refine hH.mono ?_;rintro e wq ⟨rfl,hwq⟩;obtain rfl:=hwq.symm)
               go_round
               case rel=>exact⟨k+1,by omega,by go_num,first_next (p:=fun _ y=>(ru4 l) y) HA.out HX.out HN.out⟩
               case measure=>simp [intOf];omega
              |true=>
               have HE:Hid (rulesI l fo=(23,(k:Int))):=rul6 HOK.out H2.out H3.out (firstI_at (fun i hi y hy=>HA.out i y hi hy) HX.out (by rw [HRU.out,hO,hT,hT2];rfl));go_wp2_with (go_at_call 52;refine hH.mono ?_;rintro e wq ⟨rfl,hwq⟩;obtain rfl:=hwq.symm)
               go_ret2;exact⟨by rw [HE.out];rfl,hbel⟩
          ·obtain rfl:k=l.length:=by omega
           have H4:Hid (firstI (fun _ x=>ru4 l x) l=none):=firstI_no (fun i hi y hy=>HA.out i y hi hy);have i3:(l.length:Int)<=(l.length:Int):=by omega
           clear HA;go_wp2
           go_loopw [14] (fun i wr=>∃ k:Nat,k<=l.length∧i=.int .i64 k∧Hid (∀ (j:Nat) (y:It),j<k->l[j]? =some y->ru5 l y=false)∧Below w1.heap.size w1 wr) (fun i _=>l.length-(intOf i).toNat)
           case atStart=>exact⟨0,Nat.zero_le _,rfl,by show ∀ _,_;intro j y hj;omega,Below.refl _ _⟩
           case round=>
            clear hk hlt i3;obtain⟨k,hk,rfl,HA,hb1⟩:=hrel
            by_cases hlt:k<l.length
            ·obtain⟨x,hxk⟩:∃ x,l[k]? =some x:=⟨_,List.getElem?_eq_getElem hlt⟩;have hfx:=hfo x (List.mem_of_getElem? hxk);have i1:(0:Int)<=(k:Int):=by omega
             have i2:(k:Int)<(l.length:Int):=by omega
             have HX:=Nm.hide hxk;clear hxk
             cases hO:x.out with
             |true=>
              have HN:Hid (ru5 l x=false):=by show _=_;rw [ru5,hO];rfl
              obtain⟨_,a',cap',e',_,_,hc⟩:=HR.out.below hb1;simp only [Value.slice.injEq] at e';obtain⟨rfl,_,rfl⟩:=e';obtain⟨b,off,rfl,hcell⟩:=hc (by omega);obtain⟨c0,c1,c2,c3,c4,c5,c6,c7⟩:=it_cells hcell HX.out;rw [hO] at c7;clear hcell hc c0 c1 c2 c3 c4 c5 c6;go_wp2
              go_loopw [15] (fun i wr2=>i=.int .i64 0∧wr2=wr) (fun _ _=>0)
              case atStart=>exact⟨rfl,rfl⟩
              case round=>
               obtain⟨rfl,rfl⟩:=hrel;have ip:(0:Int)<(l.length:Int):=by omega
               go_wp2;go_roundw
               case rel=>exact⟨k+1,by omega,by go_num,first_next (p:=fun _ y=>ru5 l y) HA.out HX.out HN.out,hb1⟩
               case measure=>simp [intOf];omega
             |false=>
              go_wp2
              go_loopw [15] (fun i wr2=>∃ m:Nat,m<=l.length∧i=.int .i64 m∧Hid ((l.take m).any (be5 x)=false)∧Below w1.heap.size w1 wr2) (fun i _=>l.length-(intOf i).toNat)
              case atStart=>exact⟨0,Nat.zero_le _,rfl,rfl,hb1⟩
              case round=>
               clear hb1;obtain⟨m,hm,rfl,HM,hb1⟩:=hrel;obtain⟨_,a',cap',e',_,_,hc⟩:=HR.out.below hb1;simp only [Value.slice.injEq] at e';obtain⟨rfl,_,rfl⟩:=e';obtain⟨b,off,rfl,hcell⟩:=hc (by omega);obtain⟨c0,c1,c2,c3,c4,c5,c6,c7⟩:=it_cells hcell HX.out;rw [hO] at c7;clear c0 c1 c2 c3 c4 c6
               by_cases hml:m<l.length
               ·obtain⟨y,hy⟩:∃ y,l[m]? =some y:=⟨_,List.getElem?_eq_getElem hml⟩;obtain⟨d0,d1,d2,d3,d4,d5,d6,d7⟩:=it_cells hcell hy;have hU:=fun W=>specIsUnder_any x.fo y.fo W hfx (hfo y (List.mem_of_getElem? hy))
                have HRU:Hid (be5 x y=(!y.out&&(y.r.ty==39)&& !(y.fo.toList==x.fo.toList)&&isUnderS x.fo y.fo)):=by
                 show _=_
                 rw [be5,ba_eq]
                 by_cases h:y.r.ty=39<;>simp [h]
                have HY:=Nm.hide hy;have j1:(0:Int)<=(m:Int):=by omega
                have j2:(m:Int)<(l.length:Int):=by omega
                clear d0 d2 d3 d4 d6 hcell hc hy;generalize isUnderS x.fo y.fo=IU at*
                cases hO2:y.out with
                |true=>
                 have HN:Hid (be5 x y=false):=by show _=_;rw [HRU.out,hO2];rfl
                 rw [hO2] at d7;go_wp2;go_quiet (fail)
                 go_wp2;go_roundw
                 case rel=>exact⟨m+1,by omega,by go_num,any_next HM.out HY.out HN.out,Go.below_drewN hb1 _⟩
                 case measure=>simp [intOf];omega
                |false=>
                 rw [hO2] at d7
                 cases hT:(y.r.ty==39) with
                 |false=>
                  have HN:Hid (be5 x y=false):=by show _=_;rw [HRU.out,hO2,hT];rfl
                  go_wp2;go_quiet (fail)
                  go_wp2;go_roundw
                  case rel=>exact⟨m+1,by omega,by go_num,any_next HM.out HY.out HN.out,Go.below_drewN hb1 _⟩
                  case measure=>simp [intOf];omega
                 |true=>
                  cases hE:(y.fo.toList==x.fo.toList) with
                  |true=>
                   have HN:Hid (be5 x y=false):=by show _=_;rw [HRU.out,hO2,hT,hE];rfl
                   have nE:(y.fo.toList != x.fo.toList)=false:=by rw [bne,hE];rfl
                   go_wp2;go_quiet (fail)
                   go_wp2;go_roundw
                   case rel=>exact⟨m+1,by omega,by go_num,any_next HM.out HY.out HN.out,Go.below_drewN hb1 _⟩
                   case measure=>simp [intOf];omega
                  |false=>
                   have nE:(y.fo.toList != x.fo.toList)=true:=by rw [bne,hE];rfl
                   have hS:∀ W,Below w1.heap.size w1 W->(W.cell? ⟨b,off+m*8+7,none⟩=some (.bool false)∧W.cell? ⟨b,off+m*8+1,none⟩=some (.int .i64 y.r.ty)∧W.cell? ⟨b,off+m*8+5,none⟩=some (.string y.fo)∧W.cell? ⟨b,off+k*8+5,none⟩=some (.string x.fo))∧Below w1.heap.size w1 W:=by
                    intro W hW;obtain⟨_,a',cap',e',_,_,hc⟩:=HR.out.below hW;simp only [Value.slice.injEq] at e';obtain⟨e1,_,_⟩:=e';obtain⟨b',off',e2,hcell⟩:=hc (by omega);rw [<- e1] at e2;cases e2
                    obtain⟨d0,d1,d2,d3,d4,d5,d6,d7⟩:=it_cells hcell HY.out;obtain⟨c0,c1,c2,c3,c4,c5,c6,c7⟩:=it_cells hcell HX.out;rw [hO2] at d7;exact⟨⟨d7,d1,d5,c5⟩,hW⟩
                   have hS0:=hS _ hb1.drew;have hiy:=fun W (hW:Below w1.heap.size w1 W)=>(hU W).mono (R':=fun e w'=>e=.returned (.bool IU)∧Below w1.heap.size w1 w') (by rintro e w' ⟨he,hb⟩;exact⟨he,hW.trans (hb.mono hW.size)⟩)
                   have hwk:IntKind.i64.wrap (k:Int)=(k:Int):=Go.wrap_small _ (by omega) (by omega);have hwm:IntKind.i64.wrap (m:Int)=(m:Int):=Go.wrap_small _ (by omega) (by omega);clear hU
                   cases IU with
                   |false=>
                    have HN:Hid (be5 x y=false):=by show _=_;rw [HRU.out,hO2,hT,hE];rfl
                    go_wp2;go_region_held3 (fun W=>(W.cell? ⟨b,off+m*8+7,none⟩=some (.bool false)∧W.cell? ⟨b,off+m*8+1,none⟩=some (.int .i64 y.r.ty)∧W.cell? ⟨b,off+m*8+5,none⟩=some (.string y.fo)∧W.cell? ⟨b,off+k*8+5,none⟩=some (.string x.fo))∧Below w1.heap.size w1 W) (first|with_reducible assumption|with_reducible exact hS0) ((first|(go_at_call 48;refine(hiy _ hS0.2).mono ?_;rintro e w3 ⟨rfl,hb3⟩;have hS1:=hS _ hb3)))
                    go_wp2;go_roundw
                    case rel=>exact⟨m+1,by omega,by go_num,any_next HM.out HY.out HN.out,hS1.2⟩
                    case measure=>simp [intOf];omega
                   |true=>
                    have HE:Hid (rulesI l fo=(25,(k:Int))):=rul7 HOK.out H2.out H3.out H4.out (firstI_at (fun i hi y hy=>HA.out i y hi hy) HX.out (by
                     have e1:be5 x y=true:=by rw [HRU.out,hO2,hT,hE];rfl
                     rw [ru5,hO]
                     show(true&&_)=true
                     rw [Bool.true_and,List.any_eq_true]
                     exact⟨y,List.mem_of_getElem? HY.out,e1⟩))
                    go_wp2;go_region_held3 (fun W=>(W.cell? ⟨b,off+m*8+7,none⟩=some (.bool false)∧W.cell? ⟨b,off+m*8+1,none⟩=some (.int .i64 y.r.ty)∧W.cell? ⟨b,off+m*8+5,none⟩=some (.string y.fo)∧W.cell? ⟨b,off+k*8+5,none⟩=some (.string x.fo))∧Below w1.heap.size w1 W) (first|with_reducible assumption|with_reducible exact hS0) ((first|(go_at_call 48;refine(hiy _ hS0.2).mono ?_;rintro e w3 ⟨rfl,hb3⟩;have hS1:=hS _ hb3)))
                    go_wp2;go_ret2;exact⟨by rw [HE.out];rfl,Nm.below_two hbel hS1.2⟩
               ·obtain rfl:m=l.length:=by omega
                have HN:Hid (ru5 l x=false):=by
                 show _=_
                 have:=HM.out;rw [List.take_length] at this;rw [ru5,hO,show(l.any fun y=>be5 x y)=l.any (be5 x) from rfl,this];rfl
                have j2:(l.length:Int)<=(l.length:Int):=by omega
                clear hcell hc;go_wp2;go_roundw
                case rel=>exact⟨k+1,by omega,by go_num,first_next (p:=fun _ y=>ru5 l y) HA.out HX.out HN.out,hb1⟩
                case measure=>simp [intOf];omega
            ·obtain rfl:k=l.length:=by omega
             have HE:Hid (rulesI l fo=(0,0)):=rul8 HOK.out H2.out H3.out H4.out (firstI_no (fun i hi y hy=>HA.out i y hi hy));have i3:(l.length:Int)<=(l.length:Int):=by omega
             go_wp2;go_ret2;exact⟨by rw [HE.out];rfl,Nm.below_two hbel hb1⟩
end Go.Proofs.YtmdinnjimioffaaGreat
