import Derived.Test.YtmdinnjimioffaaGreatJTrM
import Derived.Test.YtmdinnjimioffaaGreatJSameM
import Derived.Test.YtmdinnjimioffaaGreatJTrP
import Derived.Test.YtmdinnjimioffaaGreatJTbIS
import Derived.Test.YtmdinnjimioffaaGreatParts
import Derived.Test.YtmdinnjimioffaaGreatJTrG
import Derived.Test.YtmdinnjimioffaaGreatJCmpM
import Derived.Deep.QuietTactic
import Derived.BigQuiet
import Derived.Test.YtmdinnjimioffaaGreatOwnS
import Derived.WalkKit
import Derived.Test.YtmdinnjimioffaaGreatJData2
import Derived.Test.YtmdinnjimioffaaGreatJOrdL
namespace Go.Proofs.YtmdinnjimioffaaGreat
open Go.RowKit
set_option linter.unusedVariables false
def dCmp(fd:ByteArray)(p:ByteArray×ByteArray):Int:=Nm.ordL p.1.data.toList fd.data.toList
def DaS(l:List (ByteArray×ByteArray)):Prop:=l.Pairwise fun a b=>Nm.ordL a.1.data.toList b.1.data.toList<0
theorem ordL_lt_trans{a b c:List UInt8}(h1:Nm.ordL a b<0)(h2:Nm.ordL b c<0):Nm.ordL a c<0:=by
 have h3:=ordL_trans a b c (by omega) (by omega)
 rcases Int.lt_or_eq_of_le h3 with h|h
 ·exact h
 ·exfalso
  have h4:=ordL_anti a c;have h5:=ordL_trans b c a (by omega) (by rw [h4];omega);have h6:=ordL_anti a b;omega
set_option maxHeartbeats 800000 in
theorem data_any(s:GSe)(B nb rb:Nat)(fd da:ByteArray)(r0 r1 r2 r3:Value)(w:World)(h:SeAt w B s)(hB:B<=w.heap.size)(hl:s.da.length<=500000)(hd:DaS s.da)(kn:Blk w nb #[.bool false] 4)(kr:Blk w rb #[r0,r1,r2,r3,.string da] 33)(hs:da.size<=1000000000):
 Calls Tryz.prog 122 #[ptr s.hd,.string fd,.func (.func 124) #[] #[ptr nb,ptr rb]] w fun e w'=>∃ v rv',e=.returned (.string v)∧SeAt w' B {s with rv:=rv',da:=putF (dCmp fd) (fd,da) s.da}∧Blk w' nb #[.bool (!isIn (dCmp fd) s.da)] 4∧Outs (nb::fpS s) w w'∧∀ b∈rv'.ownBlock.toList,b∈fpS s∨w.heap.size<=b:=by
 have hdl:(daRs s.da).length=s.da.length:=by simp [daRs]
 have hcf:∀ (tb i:Nat) (p:Value×Value),(daRs s.da)[i]? =some p->∀ W,Below w.heap.size w W->Blk W tb #[.pointer (some ⟨s.hd,0,none⟩)] 132->Calls Tryz.prog 159 #[.agg #[p.1,p.2],.string fd,.pointer (some ⟨tb,0,none⟩)] W fun e w'=>e=.returned (.int .i64 (cfOf (dCmp fd) s.da i))∧Below W.heap.size W w':=by
  intro tb i p hp W hW kb;simp only [daRs,List.getElem?_map,Option.map_eq_some_iff] at hp;obtain⟨q,hq,rfl⟩:=hp;rw [cfOf_at hq];exact place1S_any tb s.hd s.rv q.1 q.2 fd W kb (blk_below h.head hW)
 have hmono:=mono_of_pair (f:=dCmp fd) hd (fun a b hab hb=>ordL_lt_trans hab hb);have hfnd:=posOf_fnd s.da hmono
 cases hin:isIn (dCmp fd) s.da with
 |true=>
  obtain⟨x,hx,hx0⟩:=isIn_some hin;have hx':(daRs s.da)[posOf (dCmp fd) s.da]? =some (.string x.1,.string x.2):=by simp [daRs,hx]
  refine(valueOfS_in s.hd B cmpSv s.rv (.string fd) _ (daRs s.da) (cfOf (dCmp fd) s.da) (posOf (dCmp fd) s.da) _ w h.head h.rows (by omega) hcf (by rw [hdl];exact hmono) (by rw [hdl];exact hfnd) hx' (by rw [cfOf_at hx];exact hx0)).mono ?_;rintro e w' ⟨rfl,hb⟩;refine⟨x.2,s.rv,rfl,?_,?_,Outs.below hb,fun b hbm=>.inl (by simp only [fpS,List.mem_cons];exact .inr (.inr hbm))⟩
  ·rw [putF,if_pos hin];exact h.keep (fun b hm=>hb.block b (h.lt b hm))
  ·exact blk_below kn hb
 |false=>
  have hout:=valueOfS_out s.hd B cmpSv s.rv fd #[ptr nb,ptr rb] (daRs s.da) (cfOf (dCmp fd) s.da) (posOf (dCmp fd) s.da) w (some nb) (fun ux W w'=>ux=da∧Blk w' nb #[.bool true] 4) h.head h.rows (by omega) hcf (by rw [hdl];exact hmono) (by rw [hdl];exact hfnd) (by rw [hdl];exact isIn_not hin)
   (fun p hp=>by
    simp only [daRs,List.mem_map] at hp;obtain⟨q,_,rfl⟩:=hp
    exact⟨rfl,rfl⟩) hB
   (fun W hW=>lay3_any nb rb false da r0 r1 r2 r3 W (blk_below kn hW) (blk_below kr hW) hs) (fun e=>blk_ne kn h.head (by decide) (Option.some.inj e)) (fun x hx e=>own_nb h.rows kn (by decide) (by rw [hx,<- e]))
  refine hout.mono ?_;rintro e w' ⟨ux,W,w1,rv',rfl,hW,hg1,⟨rfl,kn1⟩,kg',ho',hK,hloc⟩;have hne1:=blk_ne kn h.node (by decide);have hne2:=blk_ne h.node h.head (by decide);have node1:Blk w1 s.blk _ _:=blk_grown (blk_below h.node hW) hg1 (fun e=>hne1 (Option.some.inj e));have node2:=hK.blk node1 hne2 (own_nb h.rows h.node (by decide));have kn2:=hK.blk kn1 (blk_ne kn h.head (by decide)) (own_nb h.rows kn (by decide));refine⟨ux,rv',rfl,?_,kn2,?_,?_⟩
  ·rw [putF,if_neg (by simp [hin])];refine⟨node2,kg',?_⟩;have e1:daRs (insAt (posOf (dCmp fd) s.da) (fd,ux) s.da)=(daRs s.da).take (posOf (dCmp fd) s.da)++[(Value.string fd,Value.string ux)]++(daRs s.da).drop (posOf (dCmp fd) s.da):=by simp [daRs,insAt]
   show w'.ownsRow B _ 2 rv' (daRs (insAt (posOf (dCmp fd) s.da) (fd,ux) s.da)).length (rowCs (daRs (insAt (posOf (dCmp fd) s.da) (fd,ux) s.da)))
   rw [e1]
   have hle:((daRs s.da).take (posOf (dCmp fd) s.da)++[(Value.string fd,Value.string ux)]++(daRs s.da).drop (posOf (dCmp fd) s.da)).length=(daRs s.da).length+1:=by
    have:=hfnd.1;simp
    omega
   rw [hle];exact ho'
  ·refine⟨hK.os.trans (hg1.os.trans hW.os),hK.tape.trans (hg1.tape.trans hW.tape),hK.output.trans (hg1.output.trans hW.output),Nat.le_trans hW.size (Nat.le_trans hg1.size hK.size),fun k hk hn=>?_⟩;simp only [fpS,List.mem_cons,not_or] at hn;obtain⟨n1,n2,n3,n4⟩:=hn;rw [hK.block k (Nat.lt_of_lt_of_le hk (Nat.le_trans hW.size hg1.size)) n3 (fun e=>n4 (by rw [e];simp)),hg1.block k (Nat.lt_of_lt_of_le hk hW.size) (by simpa using n1)];exact hW.block k hk
  ·intro b hb
   rcases hloc with h1|h1
   ·rw [h1] at hb;exact .inl (by simp only [fpS,List.mem_cons];exact .inr (.inr hb))
   ·right
    cases hr:rv'.ownBlock with
    |none=>rw [hr] at hb;simp at hb
    |some q=>
     rw [hr] at hb;simp at hb;subst hb;have:=h1 _ hr;have:=hg1.size;have:=hW.size;omega
end Go.Proofs.YtmdinnjimioffaaGreat
namespace Go.Proofs.YtmdinnjimioffaaGreat
open Go.RowKit
theorem okForm_of{f:ByteArray}(h1:f.size<=100)(h2:f.data.toList.all (fun c=>c==110||c==98||c==116||c==115||c==99||c==109||c==42)=true):okForm f:=by
 refine⟨h1,?_⟩;intro k hk;have:=List.all_eq_true.1 h2 f[k] (List.mem_of_getElem? (Nm.get_data hk));simpa [or_assoc] using this
theorem form_ok(t:Int):okForm (Dt.formS t):=by
 unfold Dt.formS
 repeat' split
 all_goals exact okForm_of (by decide) (by decide)
theorem parts_some{t:Int}{d:ByteArray}:(Dt.parts (Dt.specP t) d).isSome=(Dt.spans (Dt.implP t) 0 d).isSome:=by
 rw [<- Dt.forms_agree,Dt.spans_of_parts];simp
set_option maxRecDepth 100000 in
set_option maxHeartbeats 400000 in
theorem specCheckData_any(t:Int)(d:ByteArray)(w:World):
 Calls Tryz.prog 47 #[.int .i64 t,.string d] w fun e w'=>e=.returned (.int .i64 (cutCode t d))∧Below w.heap.size w w':=by
 by_cases ht:t<0∨65535<t
 ·have HC:=Nm.hide (code_type (d:=d) ht)
  by_cases ht0:t<0
  ·clear ht;go_enter Tryz.func47,Tryz.ntmps47;go_wp2;go_ret;rw [HC.out.1];exact⟨rfl,Below.refl _ _⟩
  ·have ht1:65535<t:=by omega
   have ht2:0<=t:=by omega
   clear ht;go_enter Tryz.func47,Tryz.ntmps47;go_wp2;go_ret;rw [HC.out.1];exact⟨rfl,Below.refl _ _⟩
 have ht0:0<=t:=by omega
 have ht1:t<=65535:=by omega
 by_cases hl:65535<d.size
 ·have HC:=Nm.hide (code_long ht hl);have hl':(65535:Int)<(d.size:Int):=by omega
  clear ht;go_enter Tryz.func47,Tryz.ntmps47;go_wp2;go_ret;rw [HC.out.1];exact⟨rfl,Below.refl _ _⟩
 have hl':(d.size:Int)<=65535:=by omega
 have hcall:=fun w=>l02Parts_any (Dt.formS t) d w (form_ok t) (by omega)
 have hform:=l02Form_any t;have hps:=parts_some (t:=t) (d:=d);rw [Dt.specP] at hps;rw [hps] at hcall;generalize Dt.formS t=f at*
 cases hq:Dt.spans (Dt.implP t) 0 d with
 |none=>
  have HC:=Nm.hide (code_none ht hl hq);rw [hq] at hcall;clear ht hl hq hps;go_enter Tryz.func47,Tryz.ntmps47;go_wp2_with (first|(go_at_call 50;refine(hform _).mono ?_;rintro e w1 ⟨rfl,hw⟩;obtain rfl:w=w1:=hw.symm;clear hw)|(go_at_call 51;refine(hcall _).mono ?_;rintro e w2 ⟨v,rfl,_,hbel⟩))
  go_ret;rw [HC.out.1]
  exact⟨rfl,hbel⟩
 |some sp=>
  have HC:=Nm.hide (code_some ht hl hq);rw [hq] at hcall;clear ht hl hq hps;go_enter Tryz.func47,Tryz.ntmps47;go_wp2_with (first|(go_at_call 50;refine(hform _).mono ?_;rintro e w1 ⟨rfl,hw⟩;obtain rfl:w=w1:=hw.symm;clear hw)|(go_at_call 51;refine(hcall _).mono ?_;rintro e w2 ⟨v,rfl,_,hbel⟩))
  go_ret;rw [HC.out.1];exact⟨rfl,hbel⟩
end Go.Proofs.YtmdinnjimioffaaGreat
namespace Go.Proofs.YtmdinnjimioffaaGreat
open Go.RowKit
set_option linter.unusedVariables false
theorem it_cells{w:World}{xs:List It}{b off k:Nat}{x:It}(hc:∀ (i:Nat) (y:Value),(itCs xs)[i]? =some y->w.cell? ⟨b,off+i,none⟩=some y)(h:xs[k]? =some x):
 w.cell? ⟨b,off+k*8,none⟩=some (.string x.r.own)∧w.cell? ⟨b,off+k*8+1,none⟩=some (.int .i64 x.r.ty)∧w.cell? ⟨b,off+k*8+2,none⟩=some (.int .i64 x.r.cl)∧w.cell? ⟨b,off+k*8+3,none⟩=some (.int .i64 x.r.tt)∧w.cell? ⟨b,off+k*8+4,none⟩=some (.string x.r.da)∧w.cell? ⟨b,off+k*8+5,none⟩=some (.string x.fo)∧w.cell? ⟨b,off+k*8+6,none⟩=some (.string x.dt)∧w.cell? ⟨b,off+k*8+7,none⟩=some (.bool x.out):=
 ⟨hc (k*8) _ ((itCs_at xs k 0 x h (by decide)).trans rfl),hc (k*8+1) _ ((itCs_at xs k 1 x h (by decide)).trans rfl),hc (k*8+2) _ ((itCs_at xs k 2 x h (by decide)).trans rfl),hc (k*8+3) _ ((itCs_at xs k 3 x h (by decide)).trans rfl),hc (k*8+4) _ ((itCs_at xs k 4 x h (by decide)).trans rfl),hc (k*8+5) _ ((itCs_at xs k 5 x h (by decide)).trans rfl),hc (k*8+6) _ ((itCs_at xs k 6 x h (by decide)).trans rfl),hc (k*8+7) _ ((itCs_at xs k 7 x h (by decide)).trans rfl)⟩
theorem hasI_take{l:List It}{k:Nat}{x:It}(fo:ByteArray)(t:Int)(h:l[k]? =some x):hasI (l.take (k+1)) fo t=(hasI (l.take k) fo t||(!x.out&&decide (x.fo=fo)&&decide (x.r.ty=t))):=by
 obtain⟨hi,e⟩:=List.getElem?_eq_some_iff.1 h;rw [List.take_succ_eq_append_getElem hi,e];simp [hasI]
theorem ba_eq(a b:ByteArray):(a.toList==b.toList)=decide (a=b):=by
 by_cases h:a=b
 ·subst h;simp
 ·rw [decide_eq_false h,beq_eq_false_iff_ne];intro e;apply h;rw [ByteArray.toList_eq,ByteArray.toList_eq] at e;cases a;cases b
  congr 1;exact Array.toList_inj.1 e
set_option maxRecDepth 100000 in
set_option maxHeartbeats 1600000 in
theorem l06Has_any(v:Value)(l:List It)(n:Nat)(fo:ByteArray)(t:Int)(w:World)(h:CRow w v l.length 8 (itCs l))(hn:n<=l.length)(hl:l.length<=1000000):
 Calls Tryz.prog 52 #[v,.int .i64 (n:Int),.string fo,.int .i64 t] w fun e w'=>e=.returned (.bool (hasI (l.take n) fo t))∧w'=w:=by
 obtain⟨_,a,cap,rfl,hcap,hmx,hc⟩:=h;unfold maxLen at hmx;go_enter Tryz.func52,Tryz.ntmps52;go_wp2
 go_loop [9] (fun i=>∃ k:Nat,k<=n∧i=.int .i64 k∧Hid (hasI (l.take k) fo t=false)) (fun i=>n-(intOf i).toNat)
 case atStart=>exact⟨0,Nat.zero_le _,rfl,rfl⟩
 case round=>
  obtain⟨k,hk,rfl,HA⟩:=hrel
  by_cases hlt:k<n
  ·obtain⟨x,hxk⟩:∃ x,l[k]? =some x:=⟨_,List.getElem?_eq_getElem (by omega)⟩;obtain⟨b,off,rfl,hcell⟩:=hc (by omega);obtain⟨c0,c1,c2,c3,c4,c5,c6,c7⟩:=it_cells hcell hxk;have i1:(0:Int)<=(k:Int):=by omega
   have i2:(k:Int)<(l.length:Int):=by omega
   have i3:(k:Int)<(n:Int):=by omega
   have hst:=hasI_take fo t hxk;have e0:=ba_eq x.fo fo;have e1:(x.r.ty==t)=decide (x.r.ty=t):=by by_cases h:x.r.ty=t<;>simp [h]
   rw [HA.out,Bool.false_or,<- e0,<- e1] at hst;have HST:=Nm.hide hst;clear hc hcell hxk hst e0 e1 HA;obtain⟨⟨o,ty,cl,tt,da⟩,f1,d1,ou⟩:=x;simp only at*
   have hend:hasI (l.take (k+1)) fo t=true->hasI (l.take n) fo t=true:=by
    intro h1
    have e:l.take n=l.take (k+1)++(l.drop (k+1)).take (n-(k+1)):=by
     conv=>lhs;rw [show n=(k+1)+(n-(k+1)) by omega]
     rw [List.take_add]
    rw [e];simp only [hasI,List.any_append,Bool.or_eq_true] at h1 ⊢;exact .inl h1
   have HEND:=Nm.hide hend;clear hend
   cases hO:ou with
   |true=>
    subst hO;have HN:Hid (hasI (l.take (k+1)) fo t=false):=by show _=_;rw [HST.out];rfl
    clear HST HEND;go_wp2
    go_round
    case rel=>exact⟨k+1,by omega,by go_num,HN⟩
    case measure=>simp [intOf];omega
   |false=>
    subst hO
    cases hF:(f1.toList==fo.toList) with
    |false=>
     have HN:Hid (hasI (l.take (k+1)) fo t=false):=by show _=_;rw [HST.out,hF];rfl
     clear HST HEND;go_wp2
     go_round
     case rel=>exact⟨k+1,by omega,by go_num,HN⟩
     case measure=>simp [intOf];omega
    |true=>
     cases hT:(ty==t) with
     |false=>
      have HN:Hid (hasI (l.take (k+1)) fo t=false):=by show _=_;rw [HST.out,hF,hT];rfl
      clear HST HEND;go_wp2
      go_round
      case rel=>exact⟨k+1,by omega,by go_num,HN⟩
      case measure=>simp [intOf];omega
     |true=>
      have HN:Hid (hasI (l.take n) fo t=true):=HEND.out (by rw [HST.out,hF,hT];rfl);clear HST HEND;go_wp2;go_ret;exact⟨by rw [HN.out];rfl,rfl⟩
  ·obtain rfl:k=n:=by omega
   have i3:(k:Int)<=(k:Int):=by omega
   clear hc;go_wp2;go_ret;exact⟨by rw [HA.out];rfl,rfl⟩
def ownI(l:List It)(fo:ByteArray):ByteArray:=match l.find? (fun x=>decide (x.fo=fo)) with
 |some x=>x.r.own
 |none=>fo
set_option maxRecDepth 100000 in
set_option maxHeartbeats 1600000 in
theorem l06Owner_any(v:Value)(l:List It)(fo:ByteArray)(w:World)(h:CRow w v l.length 8 (itCs l))(hl:l.length<=1000000):
 Calls Tryz.prog 27 #[v,.string fo] w fun e w'=>e=.returned (.string (ownI l fo))∧w'=w:=by
 obtain⟨_,a,cap,rfl,hcap,hmx,hc⟩:=h;unfold maxLen at hmx;go_enter Tryz.func27,Tryz.ntmps27;go_wp2
 go_loop [5] (fun i=>∃ k:Nat,k<=l.length∧i=.int .i64 k∧Hid (∀ j y,j<k->l[j]? =some y->decide (y.fo=fo)=false)) (fun i=>l.length-(intOf i).toNat)
 case atStart=>exact⟨0,Nat.zero_le _,rfl,by show ∀ _,_;intro j y hj;omega⟩
 case round=>
  obtain⟨k,hk,rfl,HA⟩:=hrel
  by_cases hlt:k<l.length
  ·obtain⟨x,hxk⟩:∃ x,l[k]? =some x:=⟨_,List.getElem?_eq_getElem hlt⟩;obtain⟨b,off,rfl,hcell⟩:=hc (by omega);obtain⟨c0,c1,c2,c3,c4,c5,c6,c7⟩:=it_cells hcell hxk;have i1:(0:Int)<=(k:Int):=by omega
   have i2:(k:Int)<(l.length:Int):=by omega
   have e0:=ba_eq x.fo fo;have HXK:=Nm.hide hxk;clear hc hcell hxk
   cases hF:decide (x.fo=fo) with
   |false=>
    have HA2:Hid (∀ j y,j<k+1->l[j]? =some y->decide (y.fo=fo)=false):=by
     show ∀ _,_
     intro j y hj hy
     by_cases hjk:j=k
     ·subst hjk;rw [HXK.out] at hy;obtain rfl:=Option.some.inj hy;exact hF
     ·exact HA.out j y (by omega) hy
    rw [hF] at e0;clear hF;obtain⟨⟨o,ty,cl,tt,da⟩,f1,d1,ou⟩:=x;simp only at*
    go_wp2
    go_round
    case rel=>exact⟨k+1,by omega,by go_num,HA2⟩
    case measure=>simp [intOf];omega
   |true=>
    have HO:Hid (ownI l fo=x.r.own):=by
     show _=_
     have:l.find? (fun x=>decide (x.fo=fo))=some x:=by
      rw [List.find?_eq_some_iff_getElem];obtain⟨hk',e⟩:=List.getElem?_eq_some_iff.1 HXK.out;refine⟨hF,k,hk',e,fun j hj=>?_⟩;have:=HA.out j l[j] hj (List.getElem?_eq_getElem (by omega));simp only [this];decide
     rw [ownI,this]
    rw [hF] at e0;clear hF;obtain⟨⟨o,ty,cl,tt,da⟩,f1,d1,ou⟩:=x;simp only at*
    go_wp2;go_ret;exact⟨by rw [HO.out];rfl,rfl⟩
  ·obtain rfl:k=l.length:=by omega
   have HO:Hid (ownI l fo=fo):=by
    show _=_
    have:l.find? (fun x=>decide (x.fo=fo))=none:=by
     rw [List.find?_eq_none];intro x hx;obtain⟨j,hj,e⟩:=List.getElem_of_mem hx;have:=HA.out j x hj (by rw [List.getElem?_eq_getElem hj,e]);simpa using this
    rw [ownI,this]
   have i3:(l.length:Int)<=(l.length:Int):=by omega
   clear hc;go_wp2;go_ret;exact⟨by rw [HO.out];rfl,rfl⟩
end Go.Proofs.YtmdinnjimioffaaGreat
namespace Go.Proofs.YtmdinnjimioffaaGreat
open Go.RowKit
set_option maxRecDepth 100000 in
set_option maxHeartbeats 800000 in
theorem splitName_any(s:ByteArray)(w:World)(_:s.size<=maxLen):
 Calls Tryz.prog 82 #[.string s] w fun e w'=>∃ v,e=.returned (.tuple #[v,.bool (Nm.split s).isSome])∧
  w'.ownsRow w.heap.size 9 1 v ((Nm.split s).getD []).length (((Nm.split s).getD []).map Value.string)∧Below w.heap.size w w':=by
 obtain⟨i0,hi,hz0,hz1,hz2⟩:=info_parts Tryz.infoStr;have hcall:=implNameOK_same s
 cases hq:Nm.split s with
 |none=>
  rw [hq] at hcall;simp only [Option.isSome_none] at hcall;clear hq;go_enter Tryz.func82,Tryz.ntmps82;go_wp2_with (go_at_call 107;refine(hcall _).mono ?_;rintro e w1 ⟨rfl,hw⟩;obtain rfl:w=w1:=hw.symm;clear hw)
  go_ret2
  exact⟨_,rfl,World.ownsRow_nil _ _ _ _,Below.refl _ _⟩
 |some L=>
  have hz:=Nm.split_size hq;have hst:=Nm.at_start s hz.2;have HQ:=Nm.hide hq;rw [hq] at hcall;simp only [Option.isSome_some] at hcall;clear hq;have hz2':=hz.2;clear hz;go_enter Tryz.func82,Tryz.ntmps82;go_wp2_with (go_at_call 107;refine(hcall _).mono ?_;rintro e w1 ⟨rfl,hw⟩;obtain rfl:w=w1:=hw.symm;clear hw)
  go_loopw [4,5] (fun v x wr=>∃ (ls:List ByteArray) (r:ByteArray),x=.string r∧Nm.At s ls r∧ls.length+r.size<=255∧wr.ownsRow w.heap.size 9 1 v ls.length (ls.map Value.string)∧Below w.heap.size w wr)
   (fun _ x _=>match x with|.string r=>r.size|_=>0)
  case atStart=>exact⟨[],s,rfl,hst,by simp;omega,World.ownsRow_nil _ _ _ _,Below.refl _ _⟩
  case round=>
   obtain⟨ls,r,rfl,hat,hb,hown,hbel⟩:=hrel;clear hst;have hq:=HQ.out
   by_cases h0:r.size=0
   ·rw [Nm.at_empty hat h0] at hq;simp at hq
   ·have hp:0<r.size:=by omega
    have hn:(r[0].toNat:Int)<256:=by have:=r[0].toNat_lt;omega
    by_cases h1:r.size=1∧r[0].toNat=0
    ·have hL:L=ls:=by
      have:=Nm.at_end hat hp h1.2 h1.1;rw [hq] at this;simpa using this
     have e1:=Nm.tl_one hp h1.1 h1.2;have e1':(r.toList != [0])=false:=by rw [bne,e1];rfl
     clear h1 hq HQ;go_wp2;go_ret2;rw [hL];exact⟨_,rfl,hown,hbel⟩
    ·have e1:=Nm.tl_not_one hp h1;have e1':(r.toList != [0])=true:=by rw [bne,e1];rfl
     by_cases h2:r[0].toNat=0
     ·rw [Nm.at_zero hat hp h2 (fun h=>h1 ⟨h,h2⟩)] at hq;simp at hq
     ·by_cases h3:63<r[0].toNat∨r.size<r[0].toNat+1
      ·rw [Nm.at_bad hat hp h2 h3] at hq;simp at hq
      ·have e4:(r[0].toNat:Int)<=63:=by omega
       have e5:(r[0].toNat:Int)+1<=(r.size:Int):=by omega
       have e5':1+r[0].toNat<=r.size:=by omega
       have hi0:(0:Int)<(r.size:Int):=by omega
       have HN:Hid (Nm.At s (ls++[r.extract 1 (r[0].toNat+1)]) (r.extract (r[0].toNat+1) r.size)):=Nm.at_step hat hp h2 (by omega) (by omega);have hsz:=hbel.size;clear h2 h1 h0 h3 hq HQ;go_wp2_with (at_builtin;refine wpList_append_own _ rfl (.tmp 16) (.tmp 21) 67 rfl w.heap.size 9 i0 (.string ByteArray.empty) 1 16 Tryz.underlying67 hi hz0 hz1 hz2 rfl (by decide) _ _ _ rfl (hown.alloc _) ⟨wr.heap.size,0,none⟩ 1 1 [.string (r.extract 1 (1+r[0].toNat))] rfl rfl (cell_new1 _ _ _) (Nm.one_cell _ rfl) (by unfold maxLen;omega) (by omega) (by simp;omega) ?_)
       intro v' w1 hown' hgrow _;have R:=own_step hsz hown hbel _ hown' hgrow;clear hown' hgrow hown hbel;go_wp2;go_roundw
       case rel=>exact⟨_,_,rfl,by simpa [Nat.add_comm] using HN.out,by simp;omega,R.1,R.2⟩
       case measure=>simp;omega
end Go.Proofs.YtmdinnjimioffaaGreat
namespace Go.Proofs.YtmdinnjimioffaaGreat
open Go.RowKit
set_option linter.unusedVariables false
def ru1(l:List It)(fo:ByteArray)(i:Nat)(x:It):Bool:= !x.out&&decide (x.r.ty=6)&&(decide (x.fo≠fo)||hasI (l.take i) fo 6)
def ru2(x:It):Bool:= !x.out&&starB x.fo&&(decide (x.r.ty=2)||decide (x.r.ty=39))
def ru3(l:List It)(i:Nat)(x:It):Bool:= !x.out&&(decide (x.r.ty=5)||decide (x.r.ty=39))&&hasI (l.take i) x.fo x.r.ty
def ru4(l:List It)(x:It):Bool:= !x.out&&decide (x.r.ty≠5)&&decide (x.r.ty≠47)&&hasI l x.fo 5
def be5(x y:It):Bool:= !y.out&&decide (y.r.ty=39)&&decide (y.fo≠x.fo)&&isUnderS x.fo y.fo
def ru5(l:List It)(x:It):Bool:= !x.out&&l.any fun y=>be5 x y
theorem rulesI_eq(l:List It)(fo:ByteArray):rulesI l fo=
 match firstI (ru1 l fo) l with
 |some i=>(20,i)
 |none=>if !hasI l fo 6 then(20,-1) else if !hasI l fo 2 then(21,-1) else
  match firstI (fun _ x=>ru2 x) l with
  |some i=>(26,i)
  |none=>match firstI (ru3 l) l with
   |some i=>(23,i)
   |none=>match firstI (fun _ x=>ru4 l x) l with
    |some i=>(23,i)
    |none=>match firstI (fun _ x=>ru5 l x) l with
     |some i=>(25,i)
     |none=>(0,0):=rfl
theorem first_next{p:Nat->It->Bool}{l:List It}{k:Nat}{x:It}(hno:∀ (i:Nat) (y:It),i<k->l[i]? =some y->p i y=false)(hk:l[k]? =some x)(hp:p k x=false):∀ (i:Nat) (y:It),i<k+1->l[i]? =some y->p i y=false:=by
 intro i y hi hy
 by_cases h:i=k
 ·subst h;rw [hk] at hy;obtain rfl:=Option.some.inj hy;exact hp
 ·exact hno i y (by omega) hy
theorem any_next{p:It->Bool}{l:List It}{k:Nat}{y:It}(h:(l.take k).any p=false)(hk:l[k]? =some y)(hp:p y=false):(l.take (k+1)).any p=false:=by
 obtain⟨hi,e⟩:=List.getElem?_eq_some_iff.1 hk;rw [List.take_succ_eq_append_getElem hi,e,List.any_append,h];simp [hp]
set_option maxRecDepth 100000 in
set_option maxHeartbeats 1600000 in
theorem l06Starred_any(s:ByteArray)(w:World)(hs:s.size<=maxLen):Calls Tryz.prog 53 #[.string s] w fun e w'=>e=.returned (.bool (starB s))∧w'=w:=by
 unfold maxLen at hs;obtain⟨Q,hQ⟩:∃ Q,Q=starB s:=⟨_,rfl⟩;rw [<- hQ];unfold starB at hQ
 by_cases h1:1<s.size
 ·have i1:(1:Int)<(s.size:Int):=by omega
  rw [decide_eq_true h1,Bool.true_and,<- ba_eq] at hQ;have HQ:=Nm.hide hQ;clear hQ;go_enter Tryz.func53,Tryz.ntmps53;go_wp2;go_ret;exact⟨by rw [HQ.out,show(⟨#[1,42]⟩:ByteArray).toList=[1,42] from by rw [ByteArray.toList_eq]];rfl,rfl⟩
 ·have i1:(s.size:Int)<=1:=by omega
  rw [decide_eq_false h1,Bool.false_and] at hQ;subst hQ;go_enter Tryz.func53,Tryz.ntmps53;go_wp2;go_ret;exact⟨rfl,rfl⟩
end Go.Proofs.YtmdinnjimioffaaGreat
namespace Go.Proofs.YtmdinnjimioffaaGreat
open Go.RowKit
theorem brow_grown{w w1:World}{g gb:Nat}{l:List UInt8}(h:BRow w gb l)(hg:w.grownBy w1 (some g))(hne:gb≠g):BRow w1 gb l:=by
 intro j c hj;obtain⟨h1,h2⟩:=h j c hj;have hlt:=World.block_lt_of_cell? w _ h1;have hblk:=hg.block gb hlt (fun e=>hne (by simpa using e));exact⟨(World.cell?_of_block (w:=w) hblk).trans h1,(World.frozen?_of_block (w:=w) hblk).trans h2⟩
theorem conv_brow{w:World}{gb cap k:Nat}{l:List UInt8}(h:BRow w gb l)(hk:k<=l.length):
 (convert 22 9 (.slice (some ⟨gb,0,none⟩) k cap)).run Tryz.prog w=.ok (.string ⟨(l.take k).toArray⟩) w:=by
 have hl:(l.take k).length=k:=by simp;omega
 have:=run_convert_bytes_back (P:=Tryz.prog) w 22 9 5 ⟨gb,0,none⟩ cap (l.take k) Tryz.underlying22 Tryz.underlying5 Tryz.underlying9 (by
  intro j hj;rw [Nm.addr_add,Nat.zero_add];refine(h j _ ?_).1;rw [List.getElem_take]
  exact List.getElem?_eq_getElem (by omega))
 rw [hl] at this;exact this
theorem src_setOther{w:World}{g gb i n cap:Nat}{a:Option Addr}{v:Value}(h:Src w g a n cap)(hne:gb≠g)(hcode:n=0∨∀ b off,a=some ⟨b,off,none⟩->b≠gb):Src (w.setCell ⟨gb,i,none⟩ v) g a n cap:=by
 obtain⟨pos,st,h1,h2,h3,h4,h5⟩:=h;refine⟨pos,st,?_,h2,h3,h4,?_⟩
 ·rw [heap_setCell_other w ⟨gb,i,none⟩ g v (fun e=>hne e.symm)];exact h1
 ·rcases h5 with h5|⟨b,off,e,hb,hc⟩
  ·exact .inl h5
  ·rcases hcode with h6|h6
   ·exact .inl h6
   ·refine .inr ⟨b,off,e,hb,fun j hj=>?_⟩;obtain⟨c,hc1,hc2⟩:=hc j hj;refine⟨c,?_,hc2⟩;rw [World.cell?_setCell_other w ⟨gb,i,none⟩ ⟨b,off+j,none⟩ v (by intro h;cases h;exact h6 _ off e rfl)];exact hc1
theorem grown_set{w w1:World}{g gb i:Nat}{v:Value}(h:w.grownBy w1 (some g))(hb:w.heap.size<=gb):w.grownBy (w1.setCell ⟨gb,i,none⟩ v) (some g):=
 grown_own h (row:=some gb) ⟨rfl,rfl,rfl,by simp,fun k _ hk=>heap_setCell_other w1 ⟨gb,i,none⟩ k v (fun e=>hk (by simp [e]))⟩ (fun k hk=>by simp at hk;omega)
theorem brow_len_set{l:List UInt8}{k:Nat}{d:UInt8}:(l.set k d).length=l.length:=by simp
set_option maxRecDepth 100000 in
set_option maxHeartbeats 1600000 in
theorem l01Spoil_any(g:Nat)(a:Option Addr)(n cap:Nat)(nm:ByteArray)(w:World)(h:Src w g a n cap)(h1:1<=nm.size)(h2:nm.size<=1000):
 Calls Tryz.prog 41 #[.pointer (some ⟨g,0,none⟩),.string nm] w fun e w'=>∃ s:ByteArray,e=.returned (.string s)∧s.size<=2000∧Src w' g a n cap∧w.grownBy w' (some g):=by
 obtain⟨hcode,hglt⟩:=src_code h;obtain⟨cp,W,hcp,hcpm,hrun,hrow,hbw⟩:=new_bytes nm w;have hcpm':=hcpm (by unfold maxLen;omega);unfold maxLen at hcpm';have hs0:=src_below h hbw;have hg0:=grown_below (World.grownBy.refl w (some g)) hbw;have hne:w.heap.size≠g:=by omega
 have hcb:n=0∨∀ b off,a=some ⟨b,off,none⟩->b≠w.heap.size:=by
  rcases Nat.eq_zero_or_pos n with hn|hn
  ·exact .inl hn
  refine .inr fun b off e=>?_
  rcases hcode with h0|⟨b',off',e',_,hc⟩
  ·omega
  ·rw [e] at e';simp only [Option.some.injEq,Addr.mk.injEq,and_true] at e';obtain⟨rfl,rfl⟩:=e';obtain⟨c,hc1,_⟩:=hc 0 (by omega);have:b<w.heap.size:=World.block_lt_of_cell? w _ hc1;omega
 have hone:(ByteArray.mk #[97]).size=1:=rfl;have hone2:(ByteArray.mk #[64]).size=1:=rfl;have hlen:nm.data.toList.length=nm.size:=by simp
 clear hcpm h hbw;go_enter Tryz.func41,Tryz.ntmps41;go_wp2_with fail
 refine(l01Next_any g a n cap 6 _ hs0 (by decide)).mono ?_;rintro e w1 ⟨r,rfl,hr0,hr1,hs1,hg1⟩;have hr2:=hr1 (by decide);have hrow1:=brow_grown hrow hg1 hne;have hgg:=grown_step hg0 hg1;have hsz1:=hgg.size;clear hr1 hrun hs0 hg0 hrow hg1
 rcases(by omega:r=0∨r=1∨r=2∨r=3∨r=4∨r=5) with rfl|rfl|rfl|rfl|rfl|rfl
 ·go_wp2;go_ret;exact⟨_,rfl,by rw [ByteArray.size_append,hone];omega,hs1,hgg⟩
 ·have hcv:=conv_brow (cap:=cp) (k:=nm.size-1) hrow1 (by omega);have hms:=mk_size (nm.data.toList.take (nm.size-1));generalize ByteArray.mk (nm.data.toList.take (nm.size-1)).toArray=T at*;have HT:Hid (T.size<=2000):=by show _<=_;rw [hms,List.length_take];omega
  clear hms;go_wp2;go_ret;exact⟨_,rfl,HT.out,hs1,hgg⟩
 ·go_wp2;go_ret;exact⟨_,rfl,by decide,hs1,hgg⟩
 ·have hl0:0<nm.size:=by omega
  obtain⟨c0,hc0⟩:∃ c0,nm.data.toList[0]? =some c0:=⟨_,List.getElem?_eq_getElem (by omega)⟩;have hidx:(0:Int)<(nm.size:Int):=by omega
  go_wp2_with (go_at_call 14;refine(l01Next_any g a n cap 256 _ hs1 (by decide)).mono ?_;rintro e w2 ⟨q,rfl,hq0,hq1,hs2,hg2⟩;have hq2:=hq1 (by decide);obtain⟨c,hc⟩:=byte_of_int hq0 hq2;subst hc;have hrow2:=brow_grown hrow1 hg2 hne;have hgg2:=grown_step hgg hg2;obtain⟨hcell,hfz⟩:=hrow2 0 c0 hc0;have HS:=Nm.hide (src_setOther (i:=0) (v:=.int .u8 (c.toNat:Int)) hs2 hne hcb);have HG:=Nm.hide (grown_set (i:=0) (v:=.int .u8 (c.toNat:Int)) hgg2 (Nat.le_refl _));have hcv:=conv_brow (cap:=cp) (k:=nm.size) (hrow2.set (k:=0) (d:=c) (by omega)) (by rw [brow_len_set];omega);clear hq1)
  go_ret;exact⟨_,rfl,by rw [mk_size,List.length_take];omega,HS.out,HG.out⟩
 ·have hcv:=conv_brow (cap:=cp) (k:=nm.size) hrow1 (by omega);have hms:=mk_size (nm.data.toList.take nm.size);generalize ByteArray.mk (nm.data.toList.take nm.size).toArray=T at*;have hT:T.size<=1000:=by rw [hms,List.length_take];omega
  clear hms;go_wp2;go_ret;exact⟨_,rfl,by rw [ByteArray.size_append,hone2];omega,hs1,hgg⟩
 ·have hl0:0<nm.size:=by omega
  go_wp2_with (go_at_call 14;refine(l01Next_any g a n cap (nm.size:Int) _ hs1 (by omega)).mono ?_;rintro e w2 ⟨q,rfl,hq0,hq1,hs2,hg2⟩;have hq2:=hq1 (by omega);obtain⟨k,rfl⟩:=Int.eq_ofNat_of_zero_le hq0;have hkl:k<nm.data.toList.length:=(by omega);obtain⟨c0,hc0⟩:∃ c0,nm.data.toList[k]? =some c0:=⟨_,List.getElem?_eq_getElem hkl⟩;have hrow2:=brow_grown hrow1 hg2 hne;have hgg2:=grown_step hgg hg2;obtain⟨hcell,hfz⟩:=hrow2 k c0 hc0;have HS:=Nm.hide (src_setOther (i:=k) (v:=.int .u8 0) hs2 hne hcb);have HG:=Nm.hide (grown_set (i:=k) (v:=.int .u8 0) hgg2 (Nat.le_refl _));have hcv:=conv_brow (cap:=cp) (k:=nm.size) (hrow2.set (k:=k) (d:=0) hkl) (by rw [brow_len_set];omega);have hkn:(k:Int)<(nm.size:Int):=(by omega);have hk0:(0:Int)<=(k:Int):=(by omega);rw [show(((0:UInt8).toNat:Nat):Int)=0 from rfl] at hcv;clear hq1 hc0)
  go_ret;exact⟨_,rfl,by rw [mk_size,List.length_take];omega,HS.out,HG.out⟩
end Go.Proofs.YtmdinnjimioffaaGreat
namespace Go.Proofs.YtmdinnjimioffaaGreat
open Go.RowKit
set_option linter.unusedVariables false
def apNs:List ByteArray:=[⟨(Nm.joinL [⟨#[122]⟩,⟨#[101,120,97,109,112,108,101]⟩]).toArray⟩,⟨(Nm.joinL [⟨#[69,120,97,109,112,108,101]⟩]).toArray⟩,⟨#[0]⟩,⟨(Nm.joinL [⟨#[101,120,97,109,112,108,101]⟩]).toArray⟩]
theorem ap_size{s:ByteArray}(h:s∈apNs):1<=s.size∧s.size<=20:=by
 simp only [apNs,List.mem_cons,List.not_mem_nil,or_false] at h
 rcases h with rfl|rfl|rfl|rfl<;>decide
set_option maxRecDepth 100000 in
set_option maxHeartbeats 1600000 in
theorem l05Apex_any(g:Nat)(a:Option Addr)(n cap:Nat)(w:World)(h:Src w g a n cap):
 Calls Tryz.prog 35 #[.pointer (some ⟨g,0,none⟩)] w fun e w'=>∃ s:ByteArray,e=.returned (.string s)∧s∈apNs∧Src w' g a n cap∧w.grownBy w' (some g):=by
 go_enter Tryz.func35,Tryz.ntmps35;go_wp2_with fail
 refine(l01Next_any g a n cap 6 _ h (by decide)).mono ?_;rintro e w1 ⟨r,rfl,hr0,hr1,hsrc,hgr⟩;have hr2:=hr1 (by decide);clear hr1 h
 by_cases e0:r=0
 ·subst e0;have hj:=l01Join_any _ [⟨#[122]⟩,⟨#[101,120,97,109,112,108,101]⟩] _ (srow2 w1 ⟨#[122]⟩ ⟨#[101,120,97,109,112,108,101]⟩) (by decide);have hz:(⟨(Nm.joinL [⟨#[122]⟩,⟨#[101,120,97,109,112,108,101]⟩]).toArray⟩:ByteArray)∈apNs:=by simp [apNs]
  generalize (⟨(Nm.joinL [⟨#[122]⟩,⟨#[101,120,97,109,112,108,101]⟩]).toArray⟩:ByteArray)=J at*;have HZ:=Nm.hide hz;clear hz;go_wp2_with fail
  refine hj.mono ?_;rintro e w2 ⟨rfl,b2⟩;go_wp2;go_ret;exact⟨_,rfl,HZ.out,src_below (src_new hsrc _) b2,grown_below (grown_alloc hgr _) b2⟩
 ·have q0:(r==0)=false:=by rw [beq_eq_false_iff_ne];exact e0
  by_cases e1:r=1
  ·subst e1;have hj:=l01Join_any _ [⟨#[69,120,97,109,112,108,101]⟩] _ (srow1 w1 ⟨#[69,120,97,109,112,108,101]⟩) (by decide);have hz:(⟨(Nm.joinL [⟨#[69,120,97,109,112,108,101]⟩]).toArray⟩:ByteArray)∈apNs:=by simp [apNs]
   generalize (⟨(Nm.joinL [⟨#[69,120,97,109,112,108,101]⟩]).toArray⟩:ByteArray)=J at*;have HZ:=Nm.hide hz;clear hz e0;go_wp2_with fail
   refine hj.mono ?_;rintro e w2 ⟨rfl,b2⟩;go_wp2;go_ret;exact⟨_,rfl,HZ.out,src_below (src_new hsrc _) b2,grown_below (grown_alloc hgr _) b2⟩
  ·have q1:(r==1)=false:=by rw [beq_eq_false_iff_ne];exact e1
   by_cases e2:r=2
   ·subst e2;go_wp2;go_ret;exact⟨_,rfl,by simp [apNs],hsrc,hgr⟩
   ·have q2:(r==2)=false:=by rw [beq_eq_false_iff_ne];exact e2
    have hj:=l01Join_any _ [⟨#[101,120,97,109,112,108,101]⟩] _ (srow1 w1 ⟨#[101,120,97,109,112,108,101]⟩) (by decide);have hz:(⟨(Nm.joinL [⟨#[101,120,97,109,112,108,101]⟩]).toArray⟩:ByteArray)∈apNs:=by simp [apNs]
    generalize (⟨(Nm.joinL [⟨#[101,120,97,109,112,108,101]⟩]).toArray⟩:ByteArray)=J at*;have HZ:=Nm.hide hz;clear hz e0 e1 e2;go_wp2_with fail
    refine hj.mono ?_;rintro e w2 ⟨rfl,b2⟩;go_wp2;go_ret;exact⟨_,rfl,HZ.out,src_below (src_new hsrc _) b2,grown_below (grown_alloc hgr _) b2⟩
end Go.Proofs.YtmdinnjimioffaaGreat
namespace Go.Proofs.YtmdinnjimioffaaGreat
open Go.RowKit
set_option linter.unusedVariables false
end Go.Proofs.YtmdinnjimioffaaGreat
