import Derived.Test.YtfmolgdfjklmpaaGreatJTrD
import Derived.Test.YtfmolgdfjklmpaaGreatJSCheck
import Derived.Test.YtfmolgdfjklmpaaGreatJTake2
import Derived.Test.YtfmolgdfjklmpaaGreatJTrM
namespace Go.Proofs.YtfmolgdfjklmpaaGreat
open Go.RowKit
def foldR(t:Int)(d:ByteArray):ByteArray:=if cutCode t d=0 then Dt.foldDS t d else⟨#[]⟩
theorem foldR_bad{t:Int}{d:ByteArray}(h:cutCode t d≠0):foldR t d=⟨#[]⟩:=by rw [foldR,if_neg h]
theorem cut_spans{t:Int}{d:ByteArray}{sp:List (Nat×Nat)}(h:cutS t d=some sp):Dt.spans (Dt.implP t) 0 d=some sp∧d.size<=65535:=by
 rw [cutS] at h
 split at h
 ·cases h
 ·split at h
  ·cases h
  ·exact⟨h,by omega⟩
theorem foldR_good{t:Int}{d:ByteArray}{sp:List (Nat×Nat)}(h:cutS t d=some sp):foldR t d=⟨(Dt.lowAll sp d.data.toList).toArray⟩:=by
 rw [foldR,if_pos (code_zero.2 ⟨sp,h⟩),Dt.foldDS,(cut_spans h).1]
set_option maxRecDepth 100000 in
set_option maxHeartbeats 400000 in
theorem implFoldData_any(t:Int)(d:ByteArray)(w:World)(hd:d.size<=2000000):
 Calls Tryz.prog 92 #[.int .i64 t,.string d] w fun e w'=>e=.returned (.string (foldR t d))∧Below w.heap.size w w':=by
 have hcall:=cutData_any t d w hd
 by_cases hq:cutCode t d=0
 ·obtain⟨sp,hsp⟩:=code_zero.1 hq;have HR:=Nm.hide (foldR_good hsp)
  have hin:∀ s∈sp,s.1<=s.2∧s.2<=d.size:=by
   intro s hs;have:=spans_in _ _ _ _ (cut_spans hsp).1 s hs;omega
  have hfew:sp.length<=1000000:=by
   have h1:=cut_few t d;rw [hsp] at h1;simp at h1;omega
  rw [hq] at hcall
  have hcall:Calls Tryz.prog 134 #[.int .i64 t,.string d] w fun e w'=>∃ v,e=.returned (.tuple #[v,.int .i64 0])∧CRow w' v sp.length 2 (spanCells sp)∧Below w.heap.size w w':=by
   refine hcall.mono ?_;rintro e w' ⟨v,rfl,h1,_,h2⟩;exact⟨v,rfl,CRow.of_owns (h1 sp hsp),h2⟩
  clear hq hsp;go_enter Tryz.func92,Tryz.ntmps92;go_wp2_with (first|(go_at_call 134;refine hcall.mono ?_;rintro e w2 ⟨v,rfl,hrow,hbel⟩)|(go_at_call 135;refine(foldNames_any d v sp w2 hrow hin (by omega) hfew).mono ?_;rintro e w3 ⟨rfl,hb3⟩))
  go_ret;rw [HR.out];exact⟨rfl,Nm.below_two hbel hb3⟩
 ·have HR:=Nm.hide (foldR_bad hq);have hb:(cutCode t d != 0)=true:=by rw [bne_iff_ne];exact hq
  generalize cutCode t d=c at*;clear hq;go_enter Tryz.func92,Tryz.ntmps92;go_wp2_with (go_at_call 134;refine hcall.mono ?_;rintro e w2 ⟨v,rfl,_,_,hbel⟩)
  go_ret;rw [HR.out];exact⟨rfl,hbel⟩
def GAt(fs:List Dt.Pc)(ps:List ByteArray)(o:ByteArray)(k:Nat):Prop:=
 Dt.foldL fs ps=o.data.toList++Dt.foldL (fs.drop k) (ps.drop k)
theorem gat_start(fs:List Dt.Pc)(ps:List ByteArray):GAt fs ps ⟨#[]⟩ 0:=by simp [GAt]
theorem gat_step{fs:List Dt.Pc}{ps:List ByteArray}{o:ByteArray}{k:Nat}{p:Dt.Pc}{x:ByteArray}(h:GAt fs ps o k)(hp:fs[k]? =some p)(hx:ps[k]? =some x):
 GAt fs ps (o++if p.isN then Nm.small x else x) (k+1):=by
 obtain⟨h1,e1⟩:=List.getElem?_eq_some_iff.1 hp;obtain⟨h2,e2⟩:=List.getElem?_eq_some_iff.1 hx;rw [GAt,h,List.drop_eq_getElem_cons h1,List.drop_eq_getElem_cons h2,e1,e2,Dt.foldL];cases p.isN<;>simp [Nm.small_data]
theorem gat_end{fs:List Dt.Pc}{ps:List ByteArray}{o:ByteArray}{k:Nat}(h:GAt fs ps o k)(hk:ps.length<=k):o=⟨(Dt.foldL fs ps).toArray⟩:=by
 rw [h,List.drop_eq_nil_of_le hk];have e:Dt.foldL (fs.drop k) []=[]:=by cases fs.drop k<;>simp [Dt.foldL]
 rw [e];apply Nm.ba_ext;simp
set_option maxRecDepth 100000 in
set_option maxHeartbeats 1600000 in
theorem specFoldData_any(t:Int)(d:ByteArray)(w:World):
 Calls Tryz.prog 34 #[.int .i64 t,.string d] w fun e w'=>e=.returned (.string (foldR t d))∧Below w.heap.size w w':=by
 have hcall:=fun w=>specCheckData_any t d w
 by_cases hq:cutCode t d=0
 ·obtain⟨ps,hps,hcs,hds⟩:=good_parts hq;obtain⟨hfl,hcat,hnm⟩:=Dt.parts_cat _ _ _ hps;have hparts:=fun w=>l02Parts_any (Dt.formS t) d w (form_ok t) hds
  have hform:=l02Form_any t;have hokf:=form_ok t
  have hple:∀ x∈ps,x.size<=65535:=by
   intro x hx;have h1:=part_le ps x hx;rw [hcat] at h1;simp at h1;omega
  have hpl:ps.length<=100:=by
   have h1:=hokf.1;rw [<- hfl,Dt.specP];simpa using h1
  have hplf:ps.length<=(Dt.formS t).size:=by
   rw [<- hfl,Dt.specP];simp
  have hst:=gat_start (Dt.specP t) ps
  have hend:∀ (o:ByteArray) (k:Nat),GAt (Dt.specP t) ps o k->ps.length<=k->foldR t d=o:=by
   intro o k h1 h2;rw [gat_end h1 h2,foldR,if_pos hq,Dt.foldDS_some hps]
  have hget:∀ (k:Nat) (hk:k<(Dt.formS t).size),(Dt.specP t)[k]? =some (Dt.letP (Dt.formS t)[k]):=by
   intro k hk;rw [Dt.specP,List.getElem?_map,Nm.get_data hk];rfl
  have hstep:∀ (o:ByteArray) (k:Nat) (x:ByteArray),GAt (Dt.specP t) ps o k->(hk:k<(Dt.formS t).size)->ps[k]? =some x->GAt (Dt.specP t) ps (o++if decide ((Dt.formS t)[k].toNat=110) then Nm.small x else x) (k+1):=by
   intro o k x h1 hk hx;have:=gat_step h1 (hget k hk) hx
   rwa [isN_let] at this
  have hfold:∀ (k:Nat) (x:ByteArray),(hk:k<(Dt.formS t).size)->ps[k]? =some x->(Dt.formS t)[k].toNat=110->Nm.foldS x=Nm.small x:=by
   intro k x hk hx hN;have h1:=hnm k _ x (hget k hk) hx (by rw [isN_let,hN];rfl);obtain⟨ls,hls⟩:=Option.isSome_iff_exists.1 h1;exact Nm.foldS_some hls
  rw [Dt.specP] at hps;rw [hq] at hcall;have HE:=Nm.hide hend;have HS:=Nm.hide hstep;have HF:=Nm.hide hfold;clear hend hstep hfold hget hnm hcs hfl hcat hq hokf;generalize Dt.formS t=f at*
  have hparts:∀ w:World,Calls Tryz.prog 63 #[.string f,.string d] w fun e w'=>∃ v,e=.returned (.tuple #[v,.bool true])∧CRow w' v ps.length 1 (ps.map Value.string)∧Below w.heap.size w w':=by
   intro w;refine(hparts w).mono ?_;rintro e w' ⟨v,rfl,h1,h2⟩;exact⟨v,by rw [hps];rfl,CRow.of_owns (h1 _ hps),h2⟩
  clear hps;generalize foldR t d=FR at*;go_enter Tryz.func34,Tryz.ntmps34;go_wp2_with (first|(go_at_call 60;refine(hcall _).mono ?_;rintro e w1 ⟨rfl,hb1⟩)|(go_at_call 62;refine(hform _).mono ?_;rintro e w2 ⟨rfl,hw⟩;obtain rfl:w1=w2:=hw.symm;clear hw)|(go_at_call 63;refine(hparts _).mono ?_;rintro e w3 ⟨vp,rfl,hrow,hb3⟩))
  have hb03:Below w.heap.size w w3:=Nm.below_two hb1 hb3;obtain⟨_,ap,capp,rfl,hcapp,hmxp,hc⟩:=hrow;clear hcall hparts hform hb1 hb3
  go_loopw [8,9] (fun v i wr=>∃ (k:Nat) (o:ByteArray),k<=ps.length∧i=.int .i64 k∧v=.string o∧o.size<=k*65535∧Hid (GAt (Dt.specP t) ps o k)∧Below w3.heap.size w3 wr)
   (fun _ i _=>ps.length-(intOf i).toNat)
  case atStart=>exact⟨0,⟨#[]⟩,Nat.zero_le _,rfl,rfl,by show 0<=_;omega,hst,Below.refl _ _⟩
  case round=>
   obtain⟨k,o,hk,rfl,rfl,ho,HA,hbel⟩:=hrel;clear hst
   by_cases hlt:k<ps.length
   ·have hlt':(k:Int)<(ps.length:Int):=by omega
    obtain⟨x,hx⟩:∃ x,ps[k]? =some x:=⟨_,List.getElem?_eq_getElem hlt⟩;have hxs:=hple x (List.mem_of_getElem? hx);have hkf:k<f.size:=by omega
    have hkf':(k:Int)<(f.size:Int):=by omega
    have HX:=Nm.hide (HS.out o k x HA.out hkf hx);obtain⟨b,off,rfl,hcell⟩:=hc (by omega);have hcx0:=hcell k (.string x) (by simp [hx]);have hcx:wr.cell? ⟨b,off+k,none⟩=some (.string x):=(hbel.cell (World.block_lt_of_cell? w3 _ hcx0)).trans hcx0;have hFN:=HF.out k x hkf hx;clear hc hcell hx hcx0
    by_cases hN:f[k].toNat=110
    ·have q1:((f[k].toNat:Int)==110)=true:=by rw [beq_iff_eq];omega
     simp only [hN,decide_true,if_true] at HX;have hfn:=fun w=>specFoldName_any x w (by unfold maxLen;omega)
     rw [hFN hN] at hfn;have hss:=Nm.small_size x;generalize Nm.small x=y at*;have hsum:o.size+y.size<=9223372036854775807:=by omega
     clear hN HA hFN HF HS;go_wp2_with (go_at_call 33;refine(hfn _).mono ?_;rintro e w4 ⟨rfl,hb4⟩;have HB:Hid (Below w3.heap.size w3 w4):=Nm.below_two hbel hb4;clear hb4)
     go_roundw
     case rel=>exact⟨k+1,_,by omega,by go_num,rfl,by simp;omega,HX,HB.out⟩
     case measure=>simp [intOf];omega
    ·have q1:((f[k].toNat:Int)==110)=false:=by rw [beq_eq_false_iff_ne];omega
     simp only [hN,decide_false,Bool.false_eq_true,if_false] at HX;have hsum:o.size+x.size<=9223372036854775807:=by omega
     clear hN HA hFN HF HS;go_wp2;go_roundw
     case rel=>exact⟨k+1,_,by omega,by go_num,rfl,by simp;omega,HX,hbel⟩
     case measure=>simp [intOf];omega
   ·have hlt':(ps.length:Int)<=(k:Int):=by omega
    have HR:=Nm.hide (HE.out o k HA.out (by omega));clear hc;go_wp2;go_ret;rw [HR.out];exact⟨rfl,Nm.below_two hb03 hbel⟩
 ·have HR:=Nm.hide (foldR_bad hq);have hb:(cutCode t d != 0)=true:=by rw [bne_iff_ne];exact hq
  generalize cutCode t d=c at*;clear hq;go_enter Tryz.func34,Tryz.ntmps34;go_wp2_with (go_at_call 60;refine(hcall _).mono ?_;rintro e w1 ⟨rfl,hb1⟩)
  go_ret;rw [HR.out];exact⟨rfl,hb1⟩
end Go.Proofs.YtfmolgdfjklmpaaGreat
