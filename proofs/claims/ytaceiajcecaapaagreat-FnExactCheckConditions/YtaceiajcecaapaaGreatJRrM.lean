import Derived.Test.YtaceiajcecaapaaGreatJCRow
import Derived.Test.YtaceiajcecaapaaGreatData1
import Derived.Test.YtaceiajcecaapaaGreatRows
import Derived.WalkSpells
import Derived.WalkLawsBesides
import Derived.RegionTactic
import Derived.BigRegion
import Derived.Test.YtaceiajcecaapaaGreatJMath
import Derived.BigQuiet
import Derived.Deep.QuietTactic
namespace Go.Proofs.YtaceiajcecaapaaGreat
open Go.RowKit
set_option linter.unusedVariables false
structure Rr where
 own:ByteArray
 ty:Int
 cl:Int
 tt:Int
 da:ByteArray
def rvV(r:Rr):List Value:=[.string r.own,.int .i64 r.ty,.int .i64 r.cl,.int .i64 r.tt,.string r.da]
def rvVs(xs:List Rr):List Value:=xs.flatMap rvV
theorem rvVs_cons(x:Rr)(xs:List Rr):rvVs (x::xs)=rvV x++rvVs xs:=by simp [rvVs]
theorem rvVs_app(a b:List Rr):rvVs (a++b)=rvVs a++rvVs b:=by simp [rvVs]
theorem rvVs_len(xs:List Rr):(rvVs xs).length=xs.length*5:=by
 induction xs with
 |nil=>rfl
 |cons x xs ih=>
  have:(rvV x).length=5:=rfl;rw [rvVs_cons,List.length_append,ih,List.length_cons,this];omega
theorem rvVs_at:∀ (xs:List Rr) (k j:Nat) (x:Rr),xs[k]? =some x->j<5->(rvVs xs)[k*5+j]? =(rvV x)[j]? :=by
 intro xs
 induction xs with
 |nil=>intro k j x h;simp at h
 |cons y xs ih=>
  intro k j x h hj;have hl:(rvV y).length=5:=rfl
  cases k with
  |zero=>
   simp at h;subst h
   rw [rvVs_cons,Nat.zero_mul,Nat.zero_add,List.getElem?_append_left (by omega)]
  |succ k=>
   simp at h;rw [rvVs_cons,List.getElem?_append_right (by omega),hl,show(k+1)*5+j-5=k*5+j by omega];exact ih k j x h hj
theorem rv_cells{w:World}{xs:List Rr}{b off k:Nat}{x:Rr}(hc:∀ (i:Nat) (y:Value),(rvVs xs)[i]? =some y->w.cell? ⟨b,off+i,none⟩=some y)(h:xs[k]? =some x):
 w.cell? ⟨b,off+k*5,none⟩=some (.string x.own)∧w.cell? ⟨b,off+k*5+1,none⟩=some (.int .i64 x.ty)∧w.cell? ⟨b,off+k*5+2,none⟩=some (.int .i64 x.cl)∧w.cell? ⟨b,off+k*5+3,none⟩=some (.int .i64 x.tt)∧w.cell? ⟨b,off+k*5+4,none⟩=some (.string x.da):=
 ⟨hc (k*5) _ ((rvVs_at xs k 0 x h (by decide)).trans rfl),hc (k*5+1) _ ((rvVs_at xs k 1 x h (by decide)).trans rfl),hc (k*5+2) _ ((rvVs_at xs k 2 x h (by decide)).trans rfl),hc (k*5+3) _ ((rvVs_at xs k 3 x h (by decide)).trans rfl),hc (k*5+4) _ ((rvVs_at xs k 4 x h (by decide)).trans rfl)⟩
def rsum:List Rr->Nat
 |[]=>0
 |x::xs=>x.own.size+x.da.size+rsum xs
theorem rsum_step:∀ (xs:List Rr) (k:Nat) (x:Rr),xs[k]? =some x->rsum (xs.take (k+1))=rsum (xs.take k)+(x.own.size+x.da.size):=by
 intro xs
 induction xs with
 |nil=>intro k x h;simp at h
 |cons y xs ih=>
  intro k x h
  cases k with
  |zero=>simp at h;subst h;simp [rsum]
  |succ k=>
   simp at h;have:=ih k x h;simp only [List.take_succ_cons,rsum];omega
theorem rsum_take_le:∀ (xs:List Rr) (k:Nat),rsum (xs.take k)<=rsum xs:=by
 intro xs
 induction xs with
 |nil=>intro k;simp [rsum]
 |cons y xs ih=>
  intro k
  cases k with
  |zero=>simp [rsum]
  |succ k=>have:=ih k;simp only [List.take_succ_cons,rsum];omega
theorem rsum_mem:∀ (xs:List Rr) (x:Rr),x∈xs->x.own.size+x.da.size<=rsum xs:=by
 intro xs
 induction xs with
 |nil=>intro x h;simp at h
 |cons y xs ih=>
  intro x h
  rcases List.mem_cons.1 h with rfl|h
  ·simp only [rsum];omega
  ·have:=ih x h;simp only [rsum];omega
def szRS(xs:List Rr)(L:Int):Int:=if(xs.length:Int)+(rsum xs:Int)<=L then L-xs.length-rsum xs else -1
end Go.Proofs.YtaceiajcecaapaaGreat
namespace Go.Proofs.YtaceiajcecaapaaGreat.Dt
open Go.RowKit
def PAt(fs:List Pc)(d0:ByteArray)(ps:List ByteArray)(r:List Pc)(d:ByteArray):Prop:=
 parts fs d0=(parts r d).map (fun t=>ps++t)
theorem pat_start(fs:List Pc)(d0:ByteArray):PAt fs d0 [] fs d0:=by simp [PAt]
theorem pat_end{fs:List Pc}{d0 d:ByteArray}{ps:List ByteArray}(h:PAt fs d0 ps [] d)(h0:d.size=0):parts fs d0=some ps:=by
 rw [h,parts,if_pos h0];simp
theorem pat_left{fs:List Pc}{d0 d:ByteArray}{ps:List ByteArray}(h:PAt fs d0 ps [] d)(h0:d.size≠0):parts fs d0=none:=by
 rw [h,parts,if_neg h0];rfl
theorem pat_none{fs r:List Pc}{p:Pc}{d0 d:ByteArray}{ps:List ByteArray}(h:PAt fs d0 ps (p::r) d)(h0:sz p d=none):parts fs d0=none:=by
 rw [h,parts,h0];rfl
theorem pat_step{fs r:List Pc}{p:Pc}{d0 d x:ByteArray}{ps:List ByteArray}{n:Nat}(h:PAt fs d0 ps (p::r) d)(h0:sz p d=some n)(hx:d.extract 0 n=x):PAt fs d0 (ps++[x]) r (d.extract x.size d.size):=by
 have hn:=sz_le h0;have e:x.size=n:=by rw [<- hx];simp;omega
 rw [PAt,h,parts,h0,Option.map_map,hx,e];congr 1;funext t;simp
theorem drop_let{f:ByteArray}{k:Nat}(hk:k<f.size):(f.data.toList.map letP).drop k=letP f[k]::(f.data.toList.map letP).drop (k+1):=by
 have hl:k<(f.data.toList.map letP).length:=by simpa using hk
 rw [List.drop_eq_getElem_cons hl];simp
 rfl
theorem name_ext(d:ByteArray)(h:(nameAtS d).size≠0):d.extract 0 (nameAtS d).size=nameAtS d:=by
 obtain⟨e,e1,e2,e3,e4,e5⟩:=nameF_name 256 d 0 h;have e6:nameAtS d=d.extract 0 e:=e4;have e7:(nameAtS d).size=e:=by rw [e6];simp;omega
 rw [e7,e6]
theorem txt_ext(d:ByteArray):d.extract 0 (txtS d).size=txtS d:=by
 by_cases h:0<d.size
 ·by_cases h1:d[0].toNat+1<=d.size
  ·have e:txtS d=d.extract 0 (d[0].toNat+1):=by rw [txtS,dif_pos h,if_pos h1]
   have e7:(txtS d).size=d[0].toNat+1:=by rw [e];simp;omega
   rw [e7,e]
  ·have e:txtS d=ByteArray.empty:=by rw [txtS,dif_pos h,if_neg h1]
   rw [e];simp
 ·have e:txtS d=ByteArray.empty:=by rw [txtS,dif_neg h]
  rw [e];simp
theorem ext_none(d:ByteArray):d.extract d.size d.size=ByteArray.empty:=by
 apply Nm.ba_ext;simp
def TAt(d p:ByteArray):Prop:=p.size<=d.size∧d.extract 0 p.size=p∧txsS d=p.size+txsS (d.extract p.size d.size)
theorem tat_start(d:ByteArray):TAt d ⟨#[]⟩:=by
 have e:(⟨#[]⟩:ByteArray).size=0:=rfl;refine⟨by omega,?_,?_⟩
 ·rw [e];apply Nm.ba_ext;simp
 ·rw [e];simp
theorem tat_end{d p:ByteArray}(h:TAt d p)(h0:(txtS (d.extract p.size d.size)).size=0):txsS d=p.size:=by
 rw [h.2.2,txs_none h0];rfl
theorem tat_step{d p:ByteArray}(h:TAt d p)(h0:(txtS (d.extract p.size d.size)).size≠0):TAt d (p++txtS (d.extract p.size d.size)):=by
 obtain⟨h1,h2,h3⟩:=h;have ht:=txt_le (d.extract p.size d.size);have hte:=txt_ext (d.extract p.size d.size);generalize hT:txtS (d.extract p.size d.size)=T at*;have hz:(p++T).size=p.size+T.size:=by simp
 have hd:(d.extract p.size d.size).size=d.size-p.size:=by simp
 refine⟨by omega,?_,?_⟩
 ·apply Nm.ba_ext;rw [hz];have e1:(p++T).data.toList=p.data.toList++T.data.toList:=by simp
  rw [e1,<- hte]
  conv=>rhs;arg 1;rw [<- h2]
  simp only [ByteArray.data_extract,Array.toList_extract,List.extract_eq_take_drop];simp
  rw [List.take_add];congr 1;rw [List.take_take,Nat.min_eq_left (by omega)]
 ·rw [hz,h3,txs_step (by rw [hT];exact h0),hT];have e:(d.extract p.size d.size).extract T.size (d.extract p.size d.size).size=d.extract (p.size+T.size) d.size:=ext_ext (by omega) (Nat.le_refl _);rw [e];omega
theorem tag_short{d:ByteArray}(h:(txtS d).size<2∨16<(txtS d).size):tagB d=false:=by
 rw [tagB]
 rcases h with h|h
 ·simp;omega
 ·simp;omega
theorem tag_bad{d:ByteArray}{k:Nat}(hk:1<=k)(hl:k<(txtS d).size)(h:alnumB (txtS d)[k]=false):tagB d=false:=by
 rw [tagB,Bool.and_eq_false_iff];right;rw [List.all_eq_false];refine⟨(txtS d)[k],?_,by simp [h]⟩
 have:((txtS d).data.toList.drop 1)[k-1]? =some (txtS d)[k]:=by
  rw [List.getElem?_drop,show 1+(k-1)=k by omega];exact Nm.get_data hl
 exact List.mem_of_getElem? this
theorem tag_good{d:ByteArray}(h2:2<=(txtS d).size)(h16:(txtS d).size<=16)(h:∀ j,1<=j->(hj:j<(txtS d).size)->alnumB (txtS d)[j]=true):tagB d=true:=by
 rw [tagB];simp only [h2,h16,decide_true,Bool.true_and,List.all_eq_true];intro c hc;obtain⟨i,hi⟩:=List.getElem?_of_mem hc;rw [List.getElem?_drop] at hi
 have hl:1+i<(txtS d).size:=by
  have:=(List.getElem?_eq_some_iff.1 hi).1;simpa using this
 rw [Nm.get_data hl] at hi;simp at hi;rw [<- hi];exact h _ (by omega) hl
end Go.Proofs.YtaceiajcecaapaaGreat.Dt
namespace Go.Proofs.YtaceiajcecaapaaGreat
open Go.RowKit
theorem name_zero{s:ByteArray}{i:Nat}(h:i<s.size)(h2:i<255)(h0:s[i].toNat=0):Dt.nameF 256 s i=s.extract 0 (i+1):=by
 rw [Dt.nameF,dif_pos ⟨h,h2⟩,if_pos h0]
theorem name_big{s:ByteArray}{i:Nat}(h:i<s.size)(h2:i<255)(h0:63<s[i].toNat):Dt.nameF 256 s i=ByteArray.empty:=by
 rw [Dt.nameF,dif_pos ⟨h,h2⟩,if_neg (by omega),if_pos h0]
theorem name_step{s:ByteArray}{i:Nat}(h:i<s.size)(h2:i<255)(h0:s[i].toNat≠0)(h1:s[i].toNat<=63):Dt.nameF 256 s i=Dt.nameF 256 s (i+s[i].toNat+1):=by
 rw [Dt.nameF,dif_pos ⟨h,h2⟩,if_neg h0,if_neg (by omega)];exact Dt.nameF_enough _ _ _ _ (by omega) (by omega)
theorem name_end{s:ByteArray}{i:Nat}(h:¬(i<s.size∧i<255)):Dt.nameF 256 s i=ByteArray.empty:=by
 rw [Dt.nameF,dif_neg h]
set_option maxRecDepth 100000 in
set_option maxHeartbeats 800000 in
theorem l02NameAt_any(s:ByteArray)(w:World):
 Calls Tryz.prog 135 #[.string s] w fun e w'=>e=.returned (.string (Dt.nameAtS s))∧w'=w:=by
 have H0:Dt.nameAtS s=Dt.nameF 256 s 0:=rfl;go_enter Tryz.func135,Tryz.ntmps135;go_wp2
 go_loop [3] (fun v=>∃ i:Nat,i<=400∧v=.int .i64 i∧Dt.nameAtS s=Dt.nameF 256 s i) (fun v=>400-(intOf v).toNat)
 case atStart=>exact⟨0,by omega,rfl,H0⟩
 case round=>
  obtain⟨i,hi,rfl,hn⟩:=hrel;clear H0
  by_cases h1:i<s.size
  ·have h1':(i:Int)<(s.size:Int):=by omega
   by_cases h2:i<255
   ·have h2':(i:Int)<255:=by omega
    have hc:(s[i].toNat:Int)<256:=by have:=s[i].toNat_lt;omega
    by_cases h3:s[i].toNat=0
    ·have HN:=Nm.hide (hn.trans (name_zero h1 h2 h3));have h3':((s[i].toNat:Int)==0)=true:=by rw [beq_iff_eq];omega
     clear hn;go_wp2;go_ret;rw [HN.out];exact⟨rfl,rfl⟩
    ·have h3':((s[i].toNat:Int)==0)=false:=by rw [beq_eq_false_iff_ne];omega
     by_cases h4:63<s[i].toNat
     ·have HN:=Nm.hide (hn.trans (name_big h1 h2 h4));have h4':(63:Int)<(s[i].toNat:Int):=by omega
      clear hn;go_wp2;go_ret;rw [HN.out];exact⟨rfl,rfl⟩
     ·have HN:=Nm.hide (hn.trans (name_step h1 h2 h3 (by omega)));have h4':(s[i].toNat:Int)<=63:=by omega
      clear hn;go_wp2
      go_round
      case rel=>exact⟨i+s[i].toNat+1,by omega,by go_num,HN.out⟩
      case measure=>simp [intOf];omega
   ·have HN:=Nm.hide (hn.trans (name_end (by omega)));have h2':(255:Int)<=(i:Int):=by omega
    clear hn;go_wp2;go_ret;rw [HN.out];exact⟨rfl,rfl⟩
  ·have HN:=Nm.hide (hn.trans (name_end (by omega)));have h1':(s.size:Int)<=(i:Int):=by omega
   clear hn;go_wp2;go_ret;rw [HN.out];exact⟨rfl,rfl⟩
end Go.Proofs.YtaceiajcecaapaaGreat
namespace Go.Proofs.YtaceiajcecaapaaGreat
open Go.RowKit
theorem cmpS_left{a b:ByteArray}(h:Nm.split a=none):Nm.cmpS a b=0:=by simp [Nm.cmpS,h]
theorem cmpS_right{a b:ByteArray}(h:Nm.split b=none):Nm.cmpS a b=0:=by
 cases ha:Nm.split a<;>simp [Nm.cmpS,h,ha]
theorem cmpS_some{a b:ByteArray}{xs ys:List ByteArray}(ha:Nm.split a=some xs)(hb:Nm.split b=some ys):Nm.cmpS a b=Nm.cmpLs xs ys:=by simp [Nm.cmpS,ha,hb]
end Go.Proofs.YtaceiajcecaapaaGreat
namespace Go.Proofs.YtaceiajcecaapaaGreat
open Go.RowKit
set_option maxRecDepth 100000 in
set_option maxHeartbeats 400000 in
theorem l01Order_any(a b:ByteArray)(w:World):
 Calls Tryz.prog 170 #[.string a,.string b] w fun e w'=>e=.returned (.int .i64 (Nm.ordL a.toList b.toList))∧w'=w:=by
 cases h1:Op.bytesLess a.toList b.toList with
 |true=>
  have HC:Hid (Nm.ordL a.toList b.toList= -1):=by show _=_;simp [Nm.ordL,h1]
  go_enter Tryz.func170,Tryz.ntmps170;go_wp2;go_ret;rw [HC.out]
  exact⟨rfl,rfl⟩
 |false=>
  cases h2:(a.toList==b.toList) with
  |true=>
   have HC:Hid (Nm.ordL a.toList b.toList=0):=by show _=_;rw [Nm.ordL,if_neg (by simp [h1]),if_pos (beq_iff_eq.1 h2)]
   go_enter Tryz.func170,Tryz.ntmps170;go_wp2;go_ret;rw [HC.out]
   exact⟨rfl,rfl⟩
  |false=>
   have HC:Hid (Nm.ordL a.toList b.toList=1):=by show _=_;simp [Nm.ordL,h1,beq_eq_false_iff_ne.1 h2]
   go_enter Tryz.func170,Tryz.ntmps170;go_wp2;go_ret;rw [HC.out];exact⟨rfl,rfl⟩
end Go.Proofs.YtaceiajcecaapaaGreat
namespace Go.Proofs.YtaceiajcecaapaaGreat
open Go.RowKit
set_option linter.unusedVariables false
def RB(w:World)(g:Nat)(r:Rr):Prop:=w.cell? ⟨g,0,none⟩=some (.string r.own)∧w.cell? ⟨g,1,none⟩=some (.int .i64 r.ty)∧w.cell? ⟨g,2,none⟩=some (.int .i64 r.cl)∧w.cell? ⟨g,3,none⟩=some (.int .i64 r.tt)∧w.cell? ⟨g,4,none⟩=some (.string r.da)
theorem RB.below{w W:World}{g:Nat}{r:Rr}(h:RB w g r)(hb:Below w.heap.size w W):RB W g r:=by
 obtain⟨a,b,c,d,e⟩:=h;have put:∀ {O:Nat} {z:Value},w.cell? ⟨g,O,none⟩=some z->W.cell? ⟨g,O,none⟩=some z:=fun h=>(hb.cell (World.block_lt_of_cell? w _ h)).trans h
 exact⟨put a,put b,put c,put d,put e⟩
theorem RB.new(w:World)(r:Rr)(t:Nat):RB (w.alloc (.cells #[.string r.own,.int .i64 r.ty,.int .i64 r.cl,.int .i64 r.tt,.string r.da] t)) w.heap.size r:=by
 refine⟨?_,?_,?_,?_,?_⟩<;>simp
set_option maxRecDepth 100000 in
set_option maxHeartbeats 400000 in
theorem within_any(n m:Int)(w:World):Calls Tryz.prog 125 #[.int .i64 n,.int .i64 m] w fun e w'=>e=.returned (.bool (decide (0<=n)&&decide (n<=m)))∧w'=w:=by
 by_cases h0:0<=n
 ·by_cases h1:n<=m
  ·have e:(decide (0<=n)&&decide (n<=m))=true:=by simp [h0,h1]
   rw [e];clear e;go_enter Tryz.func125,Tryz.ntmps125;go_wp2;go_ret;exact⟨rfl,rfl⟩
  ·have h1':m<n:=by omega
   have e:(decide (0<=n)&&decide (n<=m))=false:=by simp [h0,h1]
   rw [e];clear e;go_enter Tryz.func125,Tryz.ntmps125;go_wp2;go_ret;exact⟨rfl,rfl⟩
 ·have h0':n<0:=by omega
  have e:(decide (0<=n)&&decide (n<=m))=false:=by simp [h0]
  rw [e];clear e;go_enter Tryz.func125,Tryz.ntmps125;go_wp2;go_ret;exact⟨rfl,rfl⟩
end Go.Proofs.YtaceiajcecaapaaGreat
namespace Go.Proofs.YtaceiajcecaapaaGreat
open Go.RowKit
def intCells(l:List Int):List Value:=l.map fun x=>.int .i64 x
end Go.Proofs.YtaceiajcecaapaaGreat
namespace Go.Proofs.YtaceiajcecaapaaGreat
open Go.RowKit
set_option maxRecDepth 100000 in
set_option maxHeartbeats 800000 in
theorem eqStringS_any(v u:Value)(ls:List ByteArray)(w:World)(h:Nm.SRow w v ls)(h':Nm.SRow w u ls)(hlen:ls.length<=1000000000):
 Calls Tryz.prog 91 #[v,u] w fun e w'=>e=.returned (.bool true)∧Below w.heap.size w w':=by
 obtain⟨a,cap,rfl,hcap,hmx,hnl,hc⟩:=h;obtain⟨a',cap',rfl,hcap',hmx',hnl',hc'⟩:=h';have hne:((ls.length:Int) != (ls.length:Int))=false:=by simp
 clear hnl hnl';go_enter Tryz.func91,Tryz.ntmps91;go_wp2
 go_loopw [5] (fun i wr=>∃ k:Nat,k<=ls.length∧i=.int .i64 k∧Below w.heap.size w wr) (fun i _=>ls.length-(intOf i).toNat)
 case atStart=>exact⟨0,Nat.zero_le _,rfl,Below.refl _ _⟩
 case round=>
  obtain⟨k,hk,rfl,hbel⟩:=hrel
  by_cases hlt:k<ls.length
  ·obtain⟨x,hx⟩:∃ x,ls[k]? =some x:=⟨_,List.getElem?_eq_getElem hlt⟩;have hls:ls≠[]:=by intro h;rw [h] at hlt;simp at hlt
   obtain⟨b,off,rfl,hcell⟩:=hc hls;obtain⟨b',off',rfl,hcell'⟩:=hc' hls;have hcx:wr.cell? ⟨b,off+k,none⟩=some (.string x):=(hbel.cell (World.block_lt_of_cell? w _ (hcell k x hx))).trans (hcell k x hx);have hcx':wr.cell? ⟨b',off'+k,none⟩=some (.string x):=(hbel.cell (World.block_lt_of_cell? w _ (hcell' k x hx))).trans (hcell' k x hx);have hxx:(x.toList==x.toList)=true:=by simp
   clear hx hcell hcell' hc hc' hls;go_wp2;go_region
   all_goals
    go_wp2;go_roundw
    case rel=>exact⟨k+1,by omega,by go_num,hbel.drew⟩
    case measure=>simp [intOf];omega
  ·go_wp2;go_ret;exact⟨rfl,hbel⟩
end Go.Proofs.YtaceiajcecaapaaGreat
