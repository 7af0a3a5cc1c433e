import Derived.Test.YtmdinnjimioffaaGreatJFoldN
import Derived.Test.YtmdinnjimioffaaGreatJTrD
import Derived.Test.YtmdinnjimioffaaGreatCut
import Derived.Test.YtmdinnjimioffaaGreatJTrM
import Derived.Test.YtmdinnjimioffaaGreatJTrE
import Derived.Test.YtmdinnjimioffaaGreatJTrG
namespace Go.Proofs.YtmdinnjimioffaaGreat
open Go.RowKit
def foldR(t:Int)(d:ByteArray):ByteArray:=if cutCode t d=0 then Dt.foldDS t d else⟨#[]⟩
theorem foldR_bad{t:Int}{d:ByteArray}(h:cutCode t d≠0):foldR t d=⟨#[]⟩:=by rw [foldR,if_neg h]
theorem cut_spans{t:Int}{d:ByteArray}{sp:List (Nat×Nat)}(h:cutS t d=some sp):Dt.spans (Dt.implP t) 0 d=some sp∧d.size<=65535:=by
 rw [cutS] at h
 split at h
 ·cases h
 ·split at h
  ·cases h
  ·exact⟨h,by omega⟩
theorem foldR_good{t:Int}{d:ByteArray}{sp:List (Nat×Nat)}(h:cutS t d=some sp):foldR t d=⟨(Dt.lowAll sp d.data.toList).toArray⟩:=by
 rw [foldR,if_pos (code_zero.2 ⟨sp,h⟩),Dt.foldDS,(cut_spans h).1]
set_option maxRecDepth 100000 in
set_option maxHeartbeats 400000 in
theorem implFoldData_any(t:Int)(d:ByteArray)(w:World)(hd:d.size<=2000000):
 Calls Tryz.prog 123 #[.int .i64 t,.string d] w fun e w'=>e=.returned (.string (foldR t d))∧Below w.heap.size w w':=by
 have hcall:=cutData_any t d w hd
 by_cases hq:cutCode t d=0
 ·obtain⟨sp,hsp⟩:=code_zero.1 hq;have HR:=Nm.hide (foldR_good hsp)
  have hin:∀ s∈sp,s.1<=s.2∧s.2<=d.size:=by
   intro s hs;have:=spans_in _ _ _ _ (cut_spans hsp).1 s hs;omega
  have hfew:sp.length<=1000000:=by
   have h1:=cut_few t d;rw [hsp] at h1;simp at h1;omega
  rw [hq] at hcall
  have hcall:Calls Tryz.prog 135 #[.int .i64 t,.string d] w fun e w'=>∃ v,e=.returned (.tuple #[v,.int .i64 0])∧CRow w' v sp.length 2 (spanCells sp)∧Below w.heap.size w w':=by
   refine hcall.mono ?_;rintro e w' ⟨v,rfl,h1,_,h2⟩;exact⟨v,rfl,CRow.of_owns (h1 sp hsp),h2⟩
  clear hq hsp;go_enter Tryz.func123,Tryz.ntmps123;go_wp2_with (first|(go_at_call 135;refine hcall.mono ?_;rintro e w2 ⟨v,rfl,hrow,hbel⟩)|(go_at_call 143;refine(foldNames_any d v sp w2 hrow hin (by omega) hfew).mono ?_;rintro e w3 ⟨rfl,hb3⟩))
  go_ret;rw [HR.out];exact⟨rfl,Nm.below_two hbel hb3⟩
 ·have HR:=Nm.hide (foldR_bad hq);have hb:(cutCode t d != 0)=true:=by rw [bne_iff_ne];exact hq
  generalize cutCode t d=c at*;clear hq;go_enter Tryz.func123,Tryz.ntmps123;go_wp2_with (go_at_call 135;refine hcall.mono ?_;rintro e w2 ⟨v,rfl,_,_,hbel⟩)
  go_ret;rw [HR.out];exact⟨rfl,hbel⟩
def GAt(fs:List Dt.Pc)(ps:List ByteArray)(o:ByteArray)(k:Nat):Prop:=
 Dt.foldL fs ps=o.data.toList++Dt.foldL (fs.drop k) (ps.drop k)
theorem gat_start(fs:List Dt.Pc)(ps:List ByteArray):GAt fs ps ⟨#[]⟩ 0:=by simp [GAt]
theorem gat_step{fs:List Dt.Pc}{ps:List ByteArray}{o:ByteArray}{k:Nat}{p:Dt.Pc}{x:ByteArray}(h:GAt fs ps o k)(hp:fs[k]? =some p)(hx:ps[k]? =some x):
 GAt fs ps (o++if p.isN then Nm.small x else x) (k+1):=by
 obtain⟨h1,e1⟩:=List.getElem?_eq_some_iff.1 hp;obtain⟨h2,e2⟩:=List.getElem?_eq_some_iff.1 hx;rw [GAt,h,List.drop_eq_getElem_cons h1,List.drop_eq_getElem_cons h2,e1,e2,Dt.foldL];cases p.isN<;>simp [Nm.small_data]
theorem gat_end{fs:List Dt.Pc}{ps:List ByteArray}{o:ByteArray}{k:Nat}(h:GAt fs ps o k)(hk:ps.length<=k):o=⟨(Dt.foldL fs ps).toArray⟩:=by
 rw [h,List.drop_eq_nil_of_le hk];have e:Dt.foldL (fs.drop k) []=[]:=by cases fs.drop k<;>simp [Dt.foldL]
 rw [e];apply Nm.ba_ext;simp
set_option maxRecDepth 100000 in
set_option maxHeartbeats 1600000 in
theorem specFoldData_any(t:Int)(d:ByteArray)(w:World):
 Calls Tryz.prog 23 #[.int .i64 t,.string d] w fun e w'=>e=.returned (.string (foldR t d))∧Below w.heap.size w w':=by
 have hcall:=fun w=>specCheckData_any t d w
 by_cases hq:cutCode t d=0
 ·obtain⟨ps,hps,hcs,hds⟩:=good_parts hq;obtain⟨hfl,hcat,hnm⟩:=Dt.parts_cat _ _ _ hps;have hparts:=fun w=>l02Parts_any (Dt.formS t) d w (form_ok t) hds
  have hform:=l02Form_any t;have hokf:=form_ok t
  have hple:∀ x∈ps,x.size<=65535:=by
   intro x hx;have h1:=part_le ps x hx;rw [hcat] at h1;simp at h1;omega
  have hpl:ps.length<=100:=by
   have h1:=hokf.1;rw [<- hfl,Dt.specP];simpa using h1
  have hplf:ps.length<=(Dt.formS t).size:=by
   rw [<- hfl,Dt.specP];simp
  have hst:=gat_start (Dt.specP t) ps
  have hend:∀ (o:ByteArray) (k:Nat),GAt (Dt.specP t) ps o k->ps.length<=k->foldR t d=o:=by
   intro o k h1 h2;rw [gat_end h1 h2,foldR,if_pos hq,Dt.foldDS_some hps]
  have hget:∀ (k:Nat) (hk:k<(Dt.formS t).size),(Dt.specP t)[k]? =some (Dt.letP (Dt.formS t)[k]):=by
   intro k hk;rw [Dt.specP,List.getElem?_map,Nm.get_data hk];rfl
  have hstep:∀ (o:ByteArray) (k:Nat) (x:ByteArray),GAt (Dt.specP t) ps o k->(hk:k<(Dt.formS t).size)->ps[k]? =some x->GAt (Dt.specP t) ps (o++if decide ((Dt.formS t)[k].toNat=110) then Nm.small x else x) (k+1):=by
   intro o k x h1 hk hx;have:=gat_step h1 (hget k hk) hx
   rwa [isN_let] at this
  have hfold:∀ (k:Nat) (x:ByteArray),(hk:k<(Dt.formS t).size)->ps[k]? =some x->(Dt.formS t)[k].toNat=110->Nm.foldS x=Nm.small x:=by
   intro k x hk hx hN;have h1:=hnm k _ x (hget k hk) hx (by rw [isN_let,hN];rfl);obtain⟨ls,hls⟩:=Option.isSome_iff_exists.1 h1;exact Nm.foldS_some hls
  rw [Dt.specP] at hps;rw [hq] at hcall;have HE:=Nm.hide hend;have HS:=Nm.hide hstep;have HF:=Nm.hide hfold;clear hend hstep hfold hget hnm hcs hfl hcat hq hokf;generalize Dt.formS t=f at*
  have hparts:∀ w:World,Calls Tryz.prog 51 #[.string f,.string d] w fun e w'=>∃ v,e=.returned (.tuple #[v,.bool true])∧CRow w' v ps.length 1 (ps.map Value.string)∧Below w.heap.size w w':=by
   intro w;refine(hparts w).mono ?_;rintro e w' ⟨v,rfl,h1,h2⟩;exact⟨v,by rw [hps];rfl,CRow.of_owns (h1 _ hps),h2⟩
  clear hps;generalize foldR t d=FR at*;go_enter Tryz.func23,Tryz.ntmps23;go_wp2_with (first|(go_at_call 47;refine(hcall _).mono ?_;rintro e w1 ⟨rfl,hb1⟩)|(go_at_call 50;refine(hform _).mono ?_;rintro e w2 ⟨rfl,hw⟩;obtain rfl:w1=w2:=hw.symm;clear hw)|(go_at_call 51;refine(hparts _).mono ?_;rintro e w3 ⟨vp,rfl,hrow,hb3⟩))
  have hb03:Below w.heap.size w w3:=Nm.below_two hb1 hb3;obtain⟨_,ap,capp,rfl,hcapp,hmxp,hc⟩:=hrow;clear hcall hparts hform hb1 hb3
  go_loopw [8,9] (fun v i wr=>∃ (k:Nat) (o:ByteArray),k<=ps.length∧i=.int .i64 k∧v=.string o∧o.size<=k*65535∧Hid (GAt (Dt.specP t) ps o k)∧Below w3.heap.size w3 wr)
   (fun _ i _=>ps.length-(intOf i).toNat)
  case atStart=>exact⟨0,⟨#[]⟩,Nat.zero_le _,rfl,rfl,by show 0<=_;omega,hst,Below.refl _ _⟩
  case round=>
   obtain⟨k,o,hk,rfl,rfl,ho,HA,hbel⟩:=hrel;clear hst
   by_cases hlt:k<ps.length
   ·have hlt':(k:Int)<(ps.length:Int):=by omega
    obtain⟨x,hx⟩:∃ x,ps[k]? =some x:=⟨_,List.getElem?_eq_getElem hlt⟩;have hxs:=hple x (List.mem_of_getElem? hx);have hkf:k<f.size:=by omega
    have hkf':(k:Int)<(f.size:Int):=by omega
    have HX:=Nm.hide (HS.out o k x HA.out hkf hx);obtain⟨b,off,rfl,hcell⟩:=hc (by omega);have hcx0:=hcell k (.string x) (by simp [hx]);have hcx:wr.cell? ⟨b,off+k,none⟩=some (.string x):=(hbel.cell (World.block_lt_of_cell? w3 _ hcx0)).trans hcx0;have hFN:=HF.out k x hkf hx;clear hc hcell hx hcx0
    by_cases hN:f[k].toNat=110
    ·have q1:((f[k].toNat:Int)==110)=true:=by rw [beq_iff_eq];omega
     simp only [hN,decide_true,if_true] at HX;have hfn:=fun w=>specFoldName_any x w (by unfold maxLen;omega)
     rw [hFN hN] at hfn;have hss:=Nm.small_size x;generalize Nm.small x=y at*;have hsum:o.size+y.size<=9223372036854775807:=by omega
     clear hN HA hFN HF HS;go_wp2_with (go_at_call 22;refine(hfn _).mono ?_;rintro e w4 ⟨rfl,hb4⟩;have HB:Hid (Below w3.heap.size w3 w4):=Nm.below_two hbel hb4;clear hb4)
     go_roundw
     case rel=>exact⟨k+1,_,by omega,by go_num,rfl,by simp;omega,HX,HB.out⟩
     case measure=>simp [intOf];omega
    ·have q1:((f[k].toNat:Int)==110)=false:=by rw [beq_eq_false_iff_ne];omega
     simp only [hN,decide_false,Bool.false_eq_true,if_false] at HX;have hsum:o.size+x.size<=9223372036854775807:=by omega
     clear hN HA hFN HF HS;go_wp2;go_roundw
     case rel=>exact⟨k+1,_,by omega,by go_num,rfl,by simp;omega,HX,hbel⟩
     case measure=>simp [intOf];omega
   ·have hlt':(ps.length:Int)<=(k:Int):=by omega
    have HR:=Nm.hide (HE.out o k HA.out (by omega));clear hc;go_wp2;go_ret;rw [HR.out];exact⟨rfl,Nm.below_two hb03 hbel⟩
 ·have HR:=Nm.hide (foldR_bad hq);have hb:(cutCode t d != 0)=true:=by rw [bne_iff_ne];exact hq
  generalize cutCode t d=c at*;clear hq;go_enter Tryz.func23,Tryz.ntmps23;go_wp2_with (go_at_call 47;refine(hcall _).mono ?_;rintro e w1 ⟨rfl,hb1⟩)
  go_ret;rw [HR.out];exact⟨rfl,hb1⟩
end Go.Proofs.YtmdinnjimioffaaGreat
namespace Go.Proofs.YtmdinnjimioffaaGreat
open Go.RowKit
set_option linter.unusedVariables false
theorem setAll_outs{b:Nat}:∀ (vs:List Value) (i:Nat) (w:World),Outs [b] w (setAll w b i vs):=by
 intro vs
 induction vs with
 |nil=>intro i w;exact⟨rfl,rfl,rfl,Nat.le_refl _,fun _ _ _=>rfl⟩
 |cons v vs ih=>
  intro i w;have h1:Outs [b] w (w.setCell ⟨b,i,none⟩ v):=⟨rfl,rfl,rfl,by simp,fun k _ hk=>heap_setCell_other w ⟨b,i,none⟩ k _ (by simpa using hk)⟩;exact h1.trans (ih (i+1) _) (fun k hk=>.inl hk)
theorem lay_back{W:World}{b:Nat}{x0 x1 x2 x3:Value}{ok:Bool}{R:Ending->World->Prop}{a:Act}(h:Blk W b #[x0,x1,x2,x3] 129)
 (h2:a.tmps[8]? =some (.pointer (some ⟨b,0,none⟩))) (h3:a.tmps[9]? =some (.bool ok)) (hd:a.defers=[])
 (hR:R (.returned (.tuple #[.agg #[x0,x1,x2,x3],.bool ok])) W):bodyPost Tryz.prog Tryz.f86 R .ret a W:=by
 refine bodyPost_ret ?_ hd hR;have r:=fun i=>blk_cell h i
 simp [results,Tryz.results86,go_sem,Result.andThen,r,h2,h3]
theorem gen_worldT{Pr G:World->Prop}{W:World}(h:Pr W)(k:∀ W,Pr W->G W):G W:=k W h
def LayG(own:ByteArray)(lv:Value)(lab:List ByteArray)(ty tt:Int)(at_:Nat)(fd da:ByteArray)(os os':List GOw)(ob sb:Nat)(isNew:Bool):Prop:=
 ∃ (o1:GOw) (os1:List GOw) (s2:GSe) (ss2:List GSe) (rv2 rv3:Value),GotO own lv lab os o1 os1∧GotS ty tt at_ o1.ss s2 ss2∧ob=o1.blk∧sb=s2.blk∧isNew= !isIn (dCmp fd) s2.da∧
   os'=os1.set (posOf (oCmp lab) os) {o1 with rv:=rv2,ss:=ss2.set (posOf (sCmp ty) o1.ss) {s2 with rv:=rv3,da:=putF (dCmp fd) (fd,da) s2.da}}
theorem GotO.at{own:ByteArray}{lv:Value}{lab:List ByteArray}{l l':List GOw}{o:GOw}(h:GotO own lv lab l o l')(hp:posOf (oCmp lab) l<=l.length):l'[posOf (oCmp lab) l]? =some o:=by
 rcases h with⟨_,rfl,h1,_⟩|⟨_,rfl,_⟩
 ·exact h1
 ·have hl:(l.take (posOf (oCmp lab) l)).length=posOf (oCmp lab) l:=by rw [List.length_take];omega
  rw [insAt,List.append_assoc,List.getElem?_append_right (by omega),hl];simp
theorem GotS.at{ty tt:Int}{at_:Nat}{l l':List GSe}{s:GSe}(h:GotS ty tt at_ l s l')(hp:posOf (sCmp ty) l<=l.length):l'[posOf (sCmp ty) l]? =some s:=by
 rcases h with⟨_,rfl,h1,_⟩|⟨_,rfl,_⟩
 ·exact h1
 ·have hl:(l.take (posOf (sCmp ty) l)).length=posOf (sCmp ty) l:=by rw [List.length_take];omega
  rw [insAt,List.append_assoc,List.getElem?_append_right (by omega),hl];simp
theorem posOf_le{α:Type}(f:α->Int)(l:List α):posOf f l<=l.length:=by
 unfold posOf;exact List.Sublist.length_le (List.takeWhile_sublist _)
theorem tr_fpO{th:Nat}{rv:Value}{os:List GOw}{p:Nat}{o:GOw}(h:(fpT th rv os).Nodup)(hp:os[p]? =some o):(fpO o).Nodup∧∀ b∈fpO o,b∈fpT th rv os:=by
 have hm:=List.mem_of_getElem? hp;obtain⟨e1,_⟩:=set_split hp o;constructor
 ·rw [fpT,e1] at h;simp only [List.flatMap_append,List.flatMap_cons,List.flatMap_nil,List.append_nil,List.nodup_cons,List.nodup_append] at h;exact h.2.2.1.1.2.1
 ·intro b hb;simp only [fpT,List.mem_cons,List.mem_append,List.mem_flatMap];exact .inr (.inr ⟨o,hm,hb⟩)
theorem ow_fpS{o:GOw}{j:Nat}{s:GSe}(h:(fpO o).Nodup)(hp:o.ss[j]? =some s):(fpS s).Nodup∧∀ b∈fpS s,b∈fpO o:=by
 have hm:=List.mem_of_getElem? hp;obtain⟨e1,_⟩:=set_split hp s;constructor
 ·rw [fpO,e1] at h;simp only [List.flatMap_append,List.flatMap_cons,List.flatMap_nil,List.append_nil,List.nodup_cons,List.nodup_append] at h;exact h.2.2.2.1.1.2.1
 ·intro b hb;simp only [fpO,List.mem_cons,List.mem_append,List.mem_flatMap];exact .inr (.inr (.inr ⟨s,hm,hb⟩))
def TrS(os:List GOw):Prop:=OwS os∧∀ o∈os,SeS o.ss∧o.ss.length<=400000∧∀ s∈o.ss,DaS s.da∧s.da.length<=400000
theorem GotO.sets{own:ByteArray}{lv:Value}{lab:List ByteArray}{l l':List GOw}{o:GOw}(h:GotO own lv lab l o l')(hd:TrS l):SeS o.ss∧o.ss.length<=400000∧∀ s∈o.ss,DaS s.da∧s.da.length<=400000:=by
 rcases h with⟨_,_,h1,_⟩|⟨_,_,_,_,_,h1⟩
 ·exact hd.2 o (List.mem_of_getElem? h1)
 ·rw [h1];exact⟨List.Pairwise.nil,by simp,by simp⟩
theorem GotS.data{ty tt:Int}{at_:Nat}{l l':List GSe}{s:GSe}(h:GotS ty tt at_ l s l')(hd:∀ s∈l,DaS s.da∧s.da.length<=400000):DaS s.da∧s.da.length<=400000:=by
 rcases h with⟨_,_,h1,_⟩|⟨_,_,_,_,_,h1⟩
 ·exact hd s (List.mem_of_getElem? h1)
 ·rw [h1];exact⟨List.Pairwise.nil,by simp⟩
set_option maxRecDepth 100000 in
set_option maxHeartbeats 3200000 in
theorem lay_any(bb oo th:Nat)(rv:Value)(os:List GOw)(B at_:Nat)(r:Rr)(la:Option Addr)(ln lc:Nat)(lab:List ByteArray)(w:World)(h:TrAt w B th rv os)(hB:B<=w.heap.size)(hl:os.length<=400000)(hd:TrS os)
 (hLab:LabAt w (fpT th rv os) os) (hlab:LabOK w (fpT th rv os) (.slice la ln lc) lab) (hc:w.cell? ⟨bb,oo+1,none⟩=some (ptr th)) (hbb:bb∉fpT th rv os) (hown:r.own.size<=1000000000) (hda:r.da.size<=2000000) (hat:at_<=1000000):
 Calls Tryz.prog 86 #[.pointer (some ⟨bb,oo,none⟩),.int .i64 (at_:Int),.agg #[.string r.own,.int .i64 r.ty,.int .i64 r.cl,.int .i64 r.tt,.string r.da],.slice la ln lc] w fun e w'=>∃ (ob sb:Nat) (isNew:Bool) (rv':Value) (os':List GOw),
  e=.returned (.tuple #[.agg #[.int .i64 (at_:Int),.int .i64 r.ty,ptr ob,ptr sb],.bool isNew])∧LayG r.own (.slice la ln lc) lab r.ty r.tt at_ (foldR r.ty r.da) r.da os os' ob sb isNew∧TrAt w' B th rv' os'∧Outs (fpT th rv os) w w'∧∀ b∈fpT th rv' os',b∈fpT th rv os∨w.heap.size<=b:=by
 have X:=Nm.hide (show ∀ W,W=(((w.alloc (.cells #[.int .i64 (at_:Int)] 3)).alloc (.cells #[.string r.own,.int .i64 r.ty,.int .i64 r.cl,.int .i64 r.tt,.string r.da] 33)).alloc (.cells #[.slice la ln lc] 67)).alloc (.cells #[.int .i64 0,.int .i64 0,.pointer none,.pointer none] 129)->
  Blk W w.heap.size #[.int .i64 (at_:Int)] 3∧Blk W (w.heap.size+1) #[.string r.own,.int .i64 r.ty,.int .i64 r.cl,.int .i64 r.tt,.string r.da] 33∧Blk W (w.heap.size+2) #[.slice la ln lc] 67∧Blk W (w.heap.size+3) #[.int .i64 0,.int .i64 0,.pointer none,.pointer none] 129∧Below w.heap.size w W∧W.heap.size=w.heap.size+4 from by
  rintro W rfl;have s1:(w.alloc (.cells #[.int .i64 (at_:Int)] 3)).heap.size=w.heap.size+1:=by simp
  have s2:((w.alloc (.cells #[.int .i64 (at_:Int)] 3)).alloc (.cells #[.string r.own,.int .i64 r.ty,.int .i64 r.cl,.int .i64 r.tt,.string r.da] 33)).heap.size=w.heap.size+2:=by simp
  have s3:(((w.alloc (.cells #[.int .i64 (at_:Int)] 3)).alloc (.cells #[.string r.own,.int .i64 r.ty,.int .i64 r.cl,.int .i64 r.tt,.string r.da] 33)).alloc (.cells #[.slice la ln lc] 67)).heap.size=w.heap.size+3:=by simp
  have k1:=blk_new w #[.int .i64 (at_:Int)] 3;have k2:=blk_new (w.alloc (.cells #[.int .i64 (at_:Int)] 3)) #[.string r.own,.int .i64 r.ty,.int .i64 r.cl,.int .i64 r.tt,.string r.da] 33;have k3:=blk_new ((w.alloc (.cells #[.int .i64 (at_:Int)] 3)).alloc (.cells #[.string r.own,.int .i64 r.ty,.int .i64 r.cl,.int .i64 r.tt,.string r.da] 33)) #[.slice la ln lc] 67;have k4:=blk_new (((w.alloc (.cells #[.int .i64 (at_:Int)] 3)).alloc (.cells #[.string r.own,.int .i64 r.ty,.int .i64 r.cl,.int .i64 r.tt,.string r.da] 33)).alloc (.cells #[.slice la ln lc] 67)) #[.int .i64 0,.int .i64 0,.pointer none,.pointer none] 129;rw [s1] at k2;rw [s2] at k3;rw [s3] at k4;refine⟨blk_alloc (blk_alloc (blk_alloc k1 _) _) _,blk_alloc (blk_alloc k2 _) _,blk_alloc k3 _,k4,?_,by simp⟩
  exact((((Below.refl w.heap.size w).alloc (Nat.le_refl _) _).alloc (by simp) _).alloc (by simp;omega) _).alloc (by simp;omega) _)
 have hmf:∀ (fn:Fn) (first cap:Array Value) (w:World),(Instr.makeFunc fn first cap).run Tryz.prog w=.ok (.func fn first cap) w:=fun _ _ _ _=>rfl
 have HH:=Nm.hide (And.intro h (And.intro hB (And.intro hd (And.intro hLab hlab))));clear h hB hd hLab hlab;go_enter Tryz.func86,Tryz.ntmps86;go_wp2;refine gen_worldT (Pr:=fun W=>Blk W w.heap.size #[.int .i64 (at_:Int)] 3∧Blk W (w.heap.size+1) #[.string r.own,.int .i64 r.ty,.int .i64 r.cl,.int .i64 r.tt,.string r.da] 33∧Blk W (w.heap.size+2) #[.slice la ln lc] 67∧Blk W (w.heap.size+3) #[.int .i64 0,.int .i64 0,.pointer none,.pointer none] 129∧Below w.heap.size w W∧W.heap.size=w.heap.size+4) (G:=fun W=>Code.wp _ _ _ _ W) (X.out _ rfl) ?_;rintro w0 ⟨ka,kr,kl,kd,b0,hs0⟩;clear X;have HS0:=Nm.hide hs0;clear hs0;have T0:=HH.out.1.below b0;have hfp:∀ b∈fpT th rv os,b<w.heap.size:=HH.out.1.lt
 have hc0:∀ W,Outs (fpT th rv os) w0 W->W.cell? ⟨bb,oo+1,none⟩=some (.pointer (some ⟨th,0,none⟩)):=fun W hW=>by
  have hlt:=World.block_lt_of_cell? w _ hc;rw [World.cell?_of_block (w:=w0) (hW.block bb (Nat.lt_of_lt_of_le hlt b0.size) hbb),World.cell?_of_block (w:=w) (b0.block bb hlt)];exact hc
 have hbx:∀ W,Outs (fpT th rv os) w0 W->Blk W w.heap.size #[.int .i64 (at_:Int)] 3∧Blk W (w.heap.size+1) #[.string r.own,.int .i64 r.ty,.int .i64 r.cl,.int .i64 r.tt,.string r.da] 33∧Blk W (w.heap.size+2) #[.slice la ln lc] 67∧Blk W (w.heap.size+3) #[.int .i64 0,.int .i64 0,.pointer none,.pointer none] 129:=fun W hW=>by
  have g:∀ b,w.heap.size<=b->b∉fpT th rv os:=fun b hb hm=>by have:=hfp b hm;omega
  exact⟨blk_keep ka (hW.block _ (blk_lt ka) (g _ (by omega))),blk_keep kr (hW.block _ (blk_lt kr) (g _ (by omega))),blk_keep kl (hW.block _ (blk_lt kl) (g _ (by omega))),blk_keep kd (hW.block _ (blk_lt kd) (g _ (by omega)))⟩
 have O0:Outs (fpT th rv os) w0 w0.drew:=Outs.below (Below.refl _ _).drew;have lab0:LabOK w0.drew (fpT th rv os) (.slice la ln lc) lab:=HH.out.2.2.2.2.outs (Outs.below b0.drew) (fun b hb=>.inl hb);have Lab0:LabAt w0.drew (fpT th rv os) os:=fun o ho=>(HH.out.2.2.2.1 o ho).outs (Outs.below b0.drew) (fun b hb=>.inl hb)
 have hown1:=owner_any th rv os B (w.heap.size+1) (w.heap.size+2) r.own la ln lc lab (.int .i64 r.ty) (.int .i64 r.cl) (.int .i64 r.tt) (.string r.da) w0.drew (T0.below (Below.refl _ _).drew) (Nat.le_trans HH.out.2.1 b0.size) (by omega) HH.out.2.2.1.1 Lab0 lab0 (hbx _ O0).2.1 (hbx _ O0).2.2.1 hown;unfold ptr at hown1;clear Lab0 lab0 hc ka kr kl kd;refine wp_region_last (fun W=>W.cell? ⟨bb,oo+1,none⟩=some (.pointer (some ⟨th,0,none⟩))∧W.cell? ⟨w.heap.size+2,0,none⟩=some (.slice la ln lc)∧True) 1000 (by kernel_rfl) ⟨hc0 _ O0,blk_cell (hbx _ O0).2.2.1 0,trivial⟩ (fun hHeld=>?_);refine tkL (i:=0) (v:=?_) rfl ?_ ?_;rotate_left 1
 ·(intro W hSW;obtain⟨z0,z1,z2⟩:=hSW;go_simp;try (with_reducible rfl))
 refine tkL (i:=1) (v:=?_) rfl ?_ ?_;rotate_left 1
 ·(intro W hSW;obtain⟨z0,z1,z2⟩:=hSW;go_simp;try (with_reducible rfl))
 refine tkL (i:=2) (v:=?_) rfl ?_ ?_;rotate_left 1
 ·(intro W hSW;obtain⟨z0,z1,z2⟩:=hSW;go_simp;try (with_reducible rfl))
 refine tkL (i:=3) (v:=?_) rfl ?_ ?_;rotate_left 1
 ·(intro W hSW;obtain⟨z0,z1,z2⟩:=hSW;go_simp;try (with_reducible rfl))
 refine tkL (i:=4) (v:=?_) rfl ?_ ?_;rotate_left 1
 ·(intro W hSW;obtain⟨z0,z1,z2⟩:=hSW;go_simp;try (with_reducible rfl))
 refine tkL (i:=5) (v:=?_) rfl ?_ ?_;rotate_left 1
 ·(intro W hSW;obtain⟨z0,z1,z2⟩:=hSW;go_simp;try (with_reducible rfl))
 refine wpAnyL_one (i:=6) (by kernel_rfl) rfl (fun K hK=>?_);go_simp;refine hown1.mono ?_;rintro e w1 ⟨o1,rv1,os1,rfl,hG1,T1,O1,M1⟩;go_wp2_with fail
 have O1':Outs (fpT th rv os) w0 w1:=O0.trans O1 (fun k hk=>.inl hk);refine hK.out _ _ ⟨hc0 _ O1',blk_cell (hbx _ O1').2.2.1 0,trivial⟩ (fun hHeld=>?_);clear hK K hown1;refine tkL (i:=7) (v:=?_) rfl ?_ ?_;rotate_left 1
 ·(intro W hSW;obtain⟨z0,z1,z2⟩:=hSW;go_simp;try (with_reducible rfl))
 refine wpAnyL_done (by kernel_rfl) ?_;have hp1:=hG1.at (posOf_le _ _);have ow1:=T1.owners o1 (List.mem_of_getElem? hp1);obtain⟨nd1,sub1⟩:=tr_fpO T1.nodup hp1;obtain⟨sS1,sL1,sD1⟩:=hG1.sets HH.out.2.2.1;have hBw1:B<=w1.heap.size:=Nat.le_trans HH.out.2.1 (Nat.le_trans b0.size O1'.size);have hset:=set_any o1 B (w.heap.size+1) w.heap.size at_ r.ty r.tt (.string r.own) (.int .i64 r.ty) (.int .i64 r.cl) (.string r.da) w1.drew (ow1.keep (fun b _=>rfl)) nd1 hBw1 (by omega) sS1 (blk_drew (hbx _ O1').2.1) (blk_drew (hbx _ O1').1);unfold ptr at hset;have hnode1:∀ W,Below w1.heap.size w1 W->W.cell? ⟨o1.blk,2,none⟩=some (.pointer (some ⟨o1.hd,0,none⟩))∧W.cell? ⟨w.heap.size+1,1,none⟩=some (.int .i64 r.ty):=fun W hW=>⟨blk_cell (blk_below ow1.node hW) 2,blk_cell (blk_below (hbx _ O1').2.1 hW) 1⟩
 have HT1:=Nm.hide (And.intro T1 (And.intro O1' (And.intro M1 hG1)));clear T1 O1 M1 hG1 T0;go_wp2;refine wp_region_last (fun W=>W.cell? ⟨o1.blk,2,none⟩=some (.pointer (some ⟨o1.hd,0,none⟩))∧W.cell? ⟨w.heap.size+1,1,none⟩=some (.int .i64 r.ty)∧True) 1000 (by kernel_rfl) ⟨(hnode1 _ (Below.refl _ _).drew).1,(hnode1 _ (Below.refl _ _).drew).2,trivial⟩ (fun hHeld=>?_);refine tkL (i:=0) (v:=?_) rfl ?_ ?_;rotate_left 1
 ·(intro W hSW;obtain⟨z0,z1,z2⟩:=hSW;go_simp;try (with_reducible rfl))
 refine tkL (i:=1) (v:=?_) rfl ?_ ?_;rotate_left 1
 ·(intro W hSW;obtain⟨z0,z1,z2⟩:=hSW;go_simp;try (with_reducible rfl))
 refine tkL (i:=2) (v:=?_) rfl ?_ ?_;rotate_left 1
 ·(intro W hSW;obtain⟨z0,z1,z2⟩:=hSW;go_simp;try (with_reducible rfl))
 refine tkL (i:=3) (v:=?_) rfl ?_ ?_;rotate_left 1
 ·(intro W hSW;obtain⟨z0,z1,z2⟩:=hSW;go_simp;try (with_reducible rfl))
 refine tkL (i:=4) (v:=?_) rfl ?_ ?_;rotate_left 1
 ·(intro W hSW;obtain⟨z0,z1,z2⟩:=hSW;go_simp;try (with_reducible rfl))
 refine tkL (i:=5) (v:=?_) rfl ?_ ?_;rotate_left 1
 ·(intro W hSW;obtain⟨z0,z1,z2⟩:=hSW;go_simp;try (with_reducible rfl))
 refine tkL (i:=6) (v:=?_) rfl ?_ ?_;rotate_left 1
 ·(intro W hSW;obtain⟨z0,z1,z2⟩:=hSW;go_simp;try (with_reducible rfl))
 refine wpAnyL_one (i:=7) (by kernel_rfl) rfl (fun K hK=>?_);go_simp;refine hset.mono ?_;rintro e w2 ⟨s2,rv2,ss2,rfl,hG2,ow2,nd2,O2,M2⟩;go_wp2_with fail
 have O2':Outs (fpO o1) w1 w2:=(Outs.below (Below.refl _ _).drew).trans O2 (fun k hk=>.inl hk);have O12:Outs (fpT th rv os) w0 w2:=HT1.out.2.1.trans O2' (fun k hk=>HT1.out.2.2.1 k (sub1 k hk));obtain⟨T2,M2'⟩:=tr_owner HT1.out.1 hp1 ow2 rfl rfl nd2 M2 O2' (fun b hb _=>hb);refine hK.out _ _ ⟨blk_cell ow2.node 2,blk_cell (hbx _ O12).2.1 1,trivial⟩ (fun hHeld=>?_);clear hK K hset;refine tkL (i:=8) (v:=?_) rfl ?_ ?_;rotate_left 1
 ·(intro W hSW;obtain⟨z0,z1,z2⟩:=hSW;go_simp;try (with_reducible rfl))
 refine wpAnyL_done (by kernel_rfl) ?_;have hj2:=hG2.at (posOf_le _ _);have se2:=ow2.sets s2 (List.mem_of_getElem? hj2);have hj2':({o1 with rv:=rv2,ss:=ss2}:GOw).ss[posOf (sCmp r.ty) o1.ss]? =some s2:=hj2;obtain⟨ns2,subS⟩:=ow_fpS nd2 hj2';obtain⟨dS2,dL2⟩:=hG2.data sD1;have k3:=blk_new w2 #[.bool false] 4;have b3:Below w2.heap.size w2 (w2.alloc (.cells #[.bool false] 4)):=(Below.refl _ _).alloc (Nat.le_refl _) _;have HT2:=Nm.hide (And.intro T2 (And.intro M2' (And.intro O12 (And.intro hG2 (And.intro ow2 nd2)))));have hsz02:w0.heap.size<=w2.heap.size:=O12.size;clear T2 M2' O2 O2' M2 hG2 hnode1;go_wp2;refine gen_worldT (Pr:=fun W=>Blk W w2.heap.size #[.bool false] 4∧Below w2.heap.size w2 W) (G:=fun W=>Code.wp _ _ _ _ W) ⟨k3,b3⟩ ?_;rintro w3 ⟨kn3,b3'⟩;clear k3 b3;have hsz23:w2.heap.size<w3.heap.size:=blk_lt kn3;have se3:=se2.keep (fun b hm=>b3'.block b (se2.lt b hm));have O13:Outs (fpT th rv os) w0 w3:=O12.trans (Outs.below (fp:=[]) b3') (fun k hk=>by cases hk);have hS3:∀ W,Below w3.heap.size w3 W->W.cell? ⟨s2.blk,2,none⟩=some (.pointer (some ⟨s2.hd,0,none⟩))∧W.cell? ⟨w.heap.size+1,1,none⟩=some (.int .i64 r.ty)∧W.cell? ⟨w.heap.size+1,4,none⟩=some (.string r.da):=fun W hW=>⟨blk_cell (blk_below se3.node hW) 2,blk_cell (blk_below (hbx _ O13).2.1 hW) 1,blk_cell (blk_below (hbx _ O13).2.1 hW) 4⟩
 have hfd:=fun W=>implFoldData_any r.ty r.da W hda
 have hdat:=fun W (hW:Below w3.heap.size w3 W)=>data_any s2 B w2.heap.size (w.heap.size+1) (foldR r.ty r.da) r.da (.string r.own) (.int .i64 r.ty) (.int .i64 r.cl) (.int .i64 r.tt) W (se3.keep (fun b hm=>hW.block b (se3.lt b hm))) (by have:=hW.size;have:=HH.out.2.1;have:=b0.size;omega) (by omega) dS2 (blk_below kn3 hW) (blk_below (hbx _ O13).2.1 hW) (by omega)
 unfold ptr at hdat;refine wp_region_last (fun W=>W.cell? ⟨s2.blk,2,none⟩=some (.pointer (some ⟨s2.hd,0,none⟩))∧W.cell? ⟨w.heap.size+1,1,none⟩=some (.int .i64 r.ty)∧W.cell? ⟨w.heap.size+1,4,none⟩=some (.string r.da)) 1000 (by kernel_rfl) (hS3 _ (Below.refl _ _).drew) (fun hHeld=>?_);refine tkL (i:=0) (v:=?_) rfl ?_ ?_;rotate_left 1
 ·(intro W hSW;obtain⟨z0,z1,z2⟩:=hSW;go_simp;try (with_reducible rfl))
 refine tkL (i:=1) (v:=?_) rfl ?_ ?_;rotate_left 1
 ·(intro W hSW;obtain⟨z0,z1,z2⟩:=hSW;go_simp;try (with_reducible rfl))
 refine tkL (i:=2) (v:=?_) rfl ?_ ?_;rotate_left 1
 ·(intro W hSW;obtain⟨z0,z1,z2⟩:=hSW;go_simp;try (with_reducible rfl))
 refine tkL (i:=3) (v:=?_) rfl ?_ ?_;rotate_left 1
 ·(intro W hSW;obtain⟨z0,z1,z2⟩:=hSW;go_simp;try (with_reducible rfl))
 refine tkL (i:=4) (v:=?_) rfl ?_ ?_;rotate_left 1
 ·(intro W hSW;obtain⟨z0,z1,z2⟩:=hSW;go_simp;try (with_reducible rfl))
 refine tkL (i:=5) (v:=?_) rfl ?_ ?_;rotate_left 1
 ·(intro W hSW;obtain⟨z0,z1,z2⟩:=hSW;go_simp;try (with_reducible rfl))
 refine tkL (i:=6) (v:=?_) rfl ?_ ?_;rotate_left 1
 ·(intro W hSW;obtain⟨z0,z1,z2⟩:=hSW;go_simp;try (with_reducible rfl))
 refine tkL (i:=7) (v:=?_) rfl ?_ ?_;rotate_left 1
 ·(intro W hSW;obtain⟨z0,z1,z2⟩:=hSW;go_simp;try (with_reducible rfl))
 refine tkL (i:=9) (v:=?_) rfl ?_ ?_;rotate_left 1
 ·(intro W hSW;obtain⟨z0,z1,z2⟩:=hSW;go_simp;try (with_reducible rfl))
 refine wpAnyL_one (i:=8) (by kernel_rfl) rfl (fun K hK=>?_);go_simp;refine(hfd _).mono ?_;rintro e w4 ⟨rfl,b4⟩;go_wp2_with fail
 have b34:Below w3.heap.size w3 w4:=Nm.below_two (Below.refl _ _).drew b4;refine hK.out _ _ (hS3 _ b34) (fun hHeld=>?_);clear hK K hfd;refine wpAnyL_one (i:=10) (by kernel_rfl) rfl (fun K hK=>?_);go_simp;refine(hdat _ b34).mono ?_;rintro e w5 ⟨dv,rv3,rfl,se5,kn5,O5,M5⟩;go_wp2_with fail
 have hb24:Below w2.heap.size w2 w4:=b3'.trans (b34.mono (by omega));have O25:Outs (w2.heap.size::fpS s2) w2 w5:=(Outs.below hb24).trans O5 (fun k hk=>.inl hk)
 have ns3:(fpS {s2 with rv:=rv3,da:=putF (dCmp (foldR r.ty r.da)) (foldR r.ty r.da,r.da) s2.da}).Nodup:=by
  have h1:=ns2;simp only [fpS,List.nodup_cons,List.mem_cons,not_or] at h1 ⊢;have e1:=own_nb se5.rows se5.node (by decide);have e2:=own_nb se5.rows se5.head (by decide);refine⟨⟨h1.1.1,fun hm=>e1 ?_⟩,fun hm=>e2 ?_,own_list _⟩
  ·simpa using hm
  ·simpa using hm
 have hm5:∀ b∈fpS {s2 with rv:=rv3,da:=putF (dCmp (foldR r.ty r.da)) (foldR r.ty r.da,r.da) s2.da},b∈fpS s2∨w2.heap.size<=b:=by
  intro b hb;simp only [fpS,List.mem_cons] at hb
  rcases hb with rfl|rfl|hb
  ·left;simp [fpS]
  ·left;simp [fpS]
  ·rcases M5 b hb with h1|h1
   ·exact .inl h1
   ·right;have:=hb24.size;omega
 have hFo:∀ b∈w2.heap.size::fpS s2,b∈fpO {o1 with rv:=rv2,ss:=ss2}->b∈fpS s2:=by
  intro b hb hbo
  rcases List.mem_cons.1 hb with rfl|hb
  ·have:=HT2.out.2.2.2.2.1.lt _ hbo;omega
  ·exact hb
 obtain⟨ow5,nd5,M5'⟩:=ow_set HT2.out.2.2.2.2.1 HT2.out.2.2.2.2.2 hj2' se5 rfl rfl ns3 hm5 O25 hFo
 have hpset:(os1.set (posOf (oCmp lab) os) {o1 with rv:=rv2,ss:=ss2})[posOf (oCmp lab) os]? =some {o1 with rv:=rv2,ss:=ss2}:=by
  rw [List.getElem?_set_self (List.getElem?_eq_some_iff.1 hp1).1]
 obtain⟨T5,M6⟩:=tr_owner HT2.out.1 hpset ow5 rfl rfl nd5 M5' O25 (fun b hb hbT=>by
  rcases List.mem_cons.1 hb with rfl|hb
  ·have:=HT2.out.1.lt _ hbT;omega
  ·exact subS b hb)
 rw [List.set_set] at T5 M6
 have O15:Outs (fpT th rv os) w0 w5:=O12.trans O25 (fun k hk=>by
  rcases List.mem_cons.1 hk with rfl|hk
  ·exact .inr hsz02
  ·rcases HT2.out.2.1 k ((tr_fpO HT2.out.1.nodup hpset).2 k (subS k hk)) with h1|h1
   ·exact HT1.out.2.2.1 k h1
   ·right;have:=HT1.out.2.1.size
    omega)
 have M7:∀ b∈fpT th rv1 (os1.set (posOf (oCmp lab) os) {o1 with rv:=rv2,ss:=ss2.set (posOf (sCmp r.ty) o1.ss) {s2 with rv:=rv3,da:=putF (dCmp (foldR r.ty r.da)) (foldR r.ty r.da,r.da) s2.da}}),b∈fpT th rv os∨w0.heap.size<=b:=by
  intro b hb
  rcases M6 b hb with h1|h1
  ·rcases HT2.out.2.1 b h1 with h2|h2
   ·exact HT1.out.2.2.1 b h2
   ·right;have:=HT1.out.2.1.size;omega
  ·right;omega
 refine hK.out _ _ ⟨blk_cell se5.node 2,blk_cell (hbx _ O15).2.1 1,blk_cell (hbx _ O15).2.1 4⟩ (fun hHeld=>?_);clear hK K hdat hS3;refine wpAnyL_done (by kernel_rfl) ?_;obtain⟨ka,kr,kl,kd⟩:=hbx _ O15;have HF:=Nm.hide (And.intro T5 (And.intro O15 M7));have HB0:=Nm.hide b0;clear T5 M6 M5' ow5 nd5 O25 O5 M5 se5 se3 se2 ow1 ow2 O12 O13 hpset hFo hm5 ns3 hb24 b34 b4 b3' hbx hc0 b0 kn3 O1' O0 M7 O15;have ra:=fun i=>blk_cell ka i
 have rr:=fun i=>blk_cell kr i
 have kd0:Blk w5 (w.heap.size+1+1+1) #[.int .i64 0,.int .i64 0,.pointer none,.pointer none] 129:=kd;have kd':=blk_drew kd0;have rd0:=(blk_cell kd0 0).trans rfl;have rd1:=(blk_cell kd0 1).trans rfl;have rd2:=(blk_cell kd0 2).trans rfl;have rd3:=(blk_cell kd0 3).trans rfl;have fd:=fun i=>blk_frozen kd0 i
 have rn:=fun i=>blk_cell kn5 i
 have Y:=Nm.hide (And.intro (setAll_new [.int .i64 (at_:Int),.int .i64 r.ty,.pointer (some ⟨o1.blk,0,none⟩),.pointer (some ⟨s2.blk,0,none⟩)] kd' rfl) (setAll_outs (b:=w.heap.size+1+1+1) [.int .i64 (at_:Int),.int .i64 r.ty,.pointer (some ⟨o1.blk,0,none⟩),.pointer (some ⟨s2.blk,0,none⟩)] 0 w5.drew));simp only [setAll,Nat.zero_add,Nat.reduceAdd] at Y;have hne1:¬w2.heap.size=w.heap.size+1+1+1:=by have:=HS0.out;omega
 have hne2:¬w.heap.size+1+1+1=w2.heap.size:=by have:=HS0.out;omega
 generalize hIN:(!isIn (dCmp (foldR r.ty r.da)) s2.da)=IN at*;have HIN:=Nm.hide hIN;clear hIN;go_wp2;go_region
 all_goals
  go_wp2;refine lay_back Y.out.1 rfl rfl rfl ?_;refine⟨o1.blk,s2.blk,IN,rv1,_,rfl,⟨o1,os1,s2,ss2,rv2,rv3,HT1.out.2.2.2,HT2.out.2.2.2.1,rfl,rfl,HIN.out.symm,rfl⟩,?_,?_,?_⟩
  ·refine HF.out.1.keep (fun b hb=>Y.out.2.block b (HF.out.1.lt b hb) (fun hm=>?_));simp only [List.mem_singleton] at hm;have h1:=HS0.out
   rcases HF.out.2.2 b hb with h2|h2
   ·have:=hfp b h2;omega
   ·omega
  ·have O5:Outs (fpT th rv os) w0 w5.drew:=HF.out.2.1.trans (Outs.below (fp:=[]) (Below.refl _ _).drew) (fun k hk=>by cases hk);have Oz:Outs (fpT th rv os) w w5.drew:=(Outs.below HB0.out).trans O5 (fun k hk=>.inl hk);refine Oz.trans Y.out.2 (fun k hk=>?_);simp only [List.mem_singleton] at hk;right;omega
  ·intro b hb
   rcases HF.out.2.2 b hb with h2|h2
   ·exact .inl h2
   ·right;have:=HS0.out;omega
end Go.Proofs.YtmdinnjimioffaaGreat
