import Derived.Test.YtcodajnebegdiaaGreatJBzL
import Derived.Test.YtcodajnebegdiaaGreatBzD
import Derived.Test.YtcodajnebegdiaaGreatJBzFBelow
import Derived.Test.YtcodajnebegdiaaGreatJTbGI
import Derived.Test.YtcodajnebegdiaaGreatJZbB
import Derived.Test.YtcodajnebegdiaaGreatJMath
namespace Go.Proofs.YtcodajnebegdiaaGreat
open Go.RowKit
set_option linter.unusedVariables false
def eqSz(a b:Sz):Bool:=decide (a.own=b.own)&&decide (a.ty=b.ty)&&decide (a.tt=b.tt)&&decide (a.da=b.da)
theorem eqSz_iff{a b:Sz}:eqSz a b=true↔a=b:=by
 obtain⟨a1,a2,a3,a4⟩:=a;obtain⟨b1,b2,b3,b4⟩:=b;simp only [eqSz,Bool.and_eq_true,decide_eq_true_eq,Sz.mk.injEq];constructor
 ·rintro⟨⟨⟨h1,h2⟩,h3⟩,h4⟩;exact⟨h1,h2,h3,h4⟩
 ·rintro⟨h1,h2,h3,h4⟩;exact⟨⟨⟨h1,h2⟩,h3⟩,h4⟩
def eqZs:List Sz->List Sz->Bool
 |[],[]=>true
 |a::xs,b::ys=>eqSz a b&&eqZs xs ys
 |_,_=>false
theorem eqZs_iff:∀ {xs ys:List Sz},eqZs xs ys=true↔xs=ys
 |[],[]=>by simp [eqZs]
 |[],b::ys=>by simp [eqZs]
 |a::xs,[]=>by simp [eqZs]
 |a::xs,b::ys=>by
  rw [eqZs,Bool.and_eq_true,eqSz_iff,eqZs_iff];simp
theorem eqZs_all{xs ys:List Sz}(hl:xs.length=ys.length)(h:∀ (j:Nat) (a b:Sz),xs[j]? =some a->ys[j]? =some b->a=b):eqZs xs ys=true:=by
 rw [eqZs_iff];apply List.ext_getElem?;intro j
 by_cases hj:j<xs.length
 ·have h1:xs[j]? =some xs[j]:=List.getElem?_eq_getElem hj;have h2:ys[j]? =some ys[j]:=List.getElem?_eq_getElem (by omega);rw [h1,h2,h j _ _ h1 h2]
 ·rw [List.getElem?_eq_none (by omega),List.getElem?_eq_none (by omega)]
theorem eqZs_not{xs ys:List Sz}{j:Nat}{a b:Sz}(h1:xs[j]? =some a)(h2:ys[j]? =some b)(h:eqSz a b=false):eqZs xs ys=false:=by
 cases hq:eqZs xs ys with
 |false=>rfl
 |true=>
  rw [eqZs_iff] at hq;subst hq;rw [h1] at h2;obtain rfl:=Option.some.inj h2;rw [eqSz_iff.2 rfl] at h;cases h
theorem eqZs_len{xs ys:List Sz}(h:xs.length≠ys.length):eqZs xs ys=false:=by
 cases hq:eqZs xs ys with
 |false=>rfl
 |true=>rw [eqZs_iff] at hq;subst hq;exact absurd rfl h
def zOK(ps:List Zp)(o:ByteArray):Bool:=decide ((bldE (zoneRecs ps) o).1=0)&&eqZs (bldZ (zoneRecs ps)) (ps.map (·.1))
theorem bldE_nil(o:ByteArray):(bldE [] o).1≠0:=by
 rw [bldE];split
 ·decide
 ·rw [if_neg (by simp)];have h1:badOne o [] 0=none:=rfl;have h2:badI ([].map itemOf)= -1:=rfl;rw [h1];simp only
  rw [h2,if_neg (by decide)];have h3:rulesI (itsOf []) (Nm.foldS o)=(20,-1):=rfl;rw [h3];decide
theorem zOK_big{ps:List Zp}{o:ByteArray}(h:500<ps.length∨500<dsum ps):zOK ps o=false:=by
 rw [zOK,zoneRecs,if_pos h,decide_eq_false (bldE_nil o)];rfl
theorem zOK_recs{ps:List Zp}{o:ByteArray}(h:zOK ps o=true):(bldE (zoneRecs ps) o).1=0∧bldZ (zoneRecs ps)=ps.map (·.1):=by
 simp only [zOK,Bool.and_eq_true,decide_eq_true_eq] at h;exact⟨h.1,eqZs_iff.1 h.2⟩
theorem recs_fit{ps:List Zp}{N:Nat}(h:∀ p∈ps,p.1.own.size<=N∧∀ x∈p.1.da,x.size<=N):∀ r∈zoneRecs ps,r.own.size<=N∧r.da.size<=N:=by
 intro r hr;unfold zoneRecs at hr
 split at hr
 ·cases hr
 ·simp only [recsAll,recsOf,List.mem_flatMap,List.mem_map] at hr;obtain⟨p,hp,d,hd,rfl⟩:=hr;exact⟨(h p hp).1,(h p hp).2 d hd⟩
theorem under_self{a b:List ByteArray}(h:Nm.cmpLs a b=0):underB a b=true:=by
 rw [underB_same h (b:=b) (b':=b) ((cmpLs_zero _ _).2 rfl),underB];simp [(cmpLs_zero b b).2 rfl]
def joB(ls:List ByteArray):ByteArray:=⟨(Nm.joinL ls).toArray⟩
theorem split_jo{s:ByteArray}{ls:List ByteArray}(h:Nm.split s=some ls):joB ls=s:=by
 rw [joB,(Nm.split_join h).1]
def Gl(ls:List ByteArray):Prop:=(∀ x∈ls,1<=x.size∧x.size<=63)∧Nm.wsum ls<=254
theorem gl_split{s:ByteArray}{ls:List ByteArray}(h:Nm.split s=some ls):Gl ls:=⟨(Nm.split_join h).2,by have:=Nm.split_size h;omega⟩
theorem Gl.drop{ls:List ByteArray}(h:Gl ls)(k:Nat):Gl (ls.drop k):=⟨drop_ok h.1 k,Nat.le_trans (Nm.wsum_drop_le ls k) h.2⟩
theorem Gl.jo{ls:List ByteArray}(h:Gl ls):Nm.split (joB ls)=some ls:=split_of_join h.1 h.2
theorem Gl.tail{x:ByteArray}{ls:List ByteArray}(h:Gl (x::ls)):Gl ls:=h.drop 1
theorem jo_size{ls:List ByteArray}(h:Gl ls):(joB ls).size<=255:=by
 have h1:=h.2;have h2:=Nm.joinL_length ls;simp [joB,ByteArray.size]
 omega
theorem jo_inj{a b:List ByteArray}(ha:Gl a)(hb:Gl b)(h:joB a=joB b):a=b:=by
 have h1:=ha.jo;rw [h,hb.jo] at h1;exact(Option.some.inj h1).symm
theorem under_iff{a b:List ByteArray}:underB a b=true↔b.length<=a.length∧Nm.cmpLs (a.drop (a.length-b.length)) b=0:=by
 rw [underB];simp
theorem under_drop{a b:List ByteArray}(h:underB a b=true){k:Nat}(hk:k+b.length<=a.length):underB (a.drop k) b=true:=by
 obtain⟨h1,h2⟩:=under_iff.1 h;refine under_iff.2 ⟨by simp;omega,?_⟩;rw [List.drop_drop,List.length_drop,show k+(a.length-k-b.length)=a.length-b.length by omega];exact h2
theorem apex_in{ps:List Zp}{o:ByteArray}{al:List ByteArray}(hz:zOK ps o=true)(ha:Nm.split o=some al):∃ p∈ps,∃ xs,Nm.split p.1.own=some xs∧Nm.cmpLs xs al=0:=by
 have h0:=(zOK_recs hz).1;rw [bldE,if_neg (by rw [ha];simp)] at h0
 split at h0
 ·exact absurd h0 (by simp)
 ·cases hb:badOne o (zoneRecs ps) 0 with
  |some c=>rw [hb] at h0;exact absurd h0 (bad_some _ _ c.1 c.2 hb)
  |none=>
   rw [hb] at h0;simp only at h0
   split at h0
   ·exact absurd h0 (by simp)
   ·split at h0
    ·rename_i h1;exact absurd h0 h1
    ·rename_i h1;have h1:(rulesI (itsOf (zoneRecs ps)) (Nm.foldS o)).1=0:=by simpa using h1
     have hg:∀ y∈(zoneRecs ps).map itemOf,GoodI y:=by
      intro y hy;obtain⟨r,hr,rfl⟩:=List.mem_map.1 hy;exact good_item (one_ok (bad_none _ _ hb r hr)).1
     have h6:hasI (itsOf (zoneRecs ps)) (Nm.foldS o) 6=true:=by
      rw [rulesI] at h1
      split at h1
      ·exact absurd h1 (by simp)
      ·split at h1
       ·exact absurd h1 (by simp)
       ·rename_i h2;simpa using h2
     obtain⟨y,hy,e1,-⟩:=(hasI_all hg _ _).1 h6;have hgy:=hg y hy;obtain⟨r,hr,rfl⟩:=List.mem_map.1 hy;rw [zoneRecs] at hr
     split at hr
     ·cases hr
     ·obtain⟨p,hp,hr⟩:=List.mem_flatMap.1 hr;obtain⟨d,-,rfl⟩:=List.mem_map.1 hr;have hs:Nm.split p.1.own=some _:=hgy.1;exact⟨p,hp,_,hs,(fold_lab hs ha).1 e1⟩
structure TZ (os:List GOw) (o:ByteArray) (al:List ByteArray):Prop where
 nm:∀ q∈os,Nm.split q.nm=some q.lab
 und:∀ q∈os,underB q.lab al=true
 one:∀ q∈os,∀ r∈os,Nm.cmpLs q.lab r.lab=0->q=r
 srt:OwS os∧∀ q∈os,SeS q.ss
 full:∀ q∈os,∃ s,s∈q.ss
 ap:Nm.split o=some al
 top:∃ q∈os,Nm.cmpLs q.lab al=0
theorem tz_of{ps:List Zp}{o:ByteArray}{al:List ByteArray}{l:List It}{os:List GOw}(hT:TInv l os)(hl:∀ y∈l,GoodI y)(hu:∀ y∈l,isUnderS y.r.own o=true)(ha:Nm.split o=some al)(hz:zOK ps o=true)(hzs:ps.map (·.1)=zoneT os):TZ os o al:=by
 have hnm:=fun q (hq:q∈os)=>hT.nm hl hq
 refine⟨hnm,fun q hq=>?_,fun q hq r hr e=>hT.one hq hr e,⟨hT.sorted.1,fun q hq=>(hT.sorted.2 q hq).1⟩,fun q hq=>?_,ha,?_⟩
 ·obtain⟨i,x,hF,h1,h2⟩:=hT.own q hq;have:=hu x hF.mem;rw [<- h1,isUnder_some (hnm q hq) ha] at this;exact this
 ·obtain⟨i,x,hF,h1,h2⟩:=hT.own q hq;obtain⟨q2,hq2,h3,s,hs,-⟩:=hT.cov x hF.mem;have h4:Nm.cmpLs (labI x) q.lab=0:=hF.2.1;have h5:Nm.cmpLs (labI x) q2.lab=0:=h3;have e:=hT.one hq hq2 (by rw [cmpLs_eq_left (cmpLs_symm h4)];exact h5);rw [e];exact⟨s,hs⟩
 ·obtain⟨p,hp,xs,h1,h2⟩:=apex_in hz ha;have hm:p.1∈zoneT os:=by rw [<- hzs];exact List.mem_map_of_mem hp
  obtain⟨g,hg,e⟩:=List.mem_map.1 hm;have hg1:=(grT_mem.1 hg).1;refine⟨g.1,hg1,?_⟩;have h3:=hnm g.1 hg1;rw [<- e] at h1;have h4:Nm.split g.1.nm=some xs:=h1;rw [h3] at h4;rw [Option.some.inj h4];exact h2
def thT(lab:List ByteArray)(os:List GOw):Bool:=match os[posOf (oCmp lab) os]? with
 |some o=>underB o.lab lab
 |none=>false
theorem thT_iff{os:List GOw}(h:OwS os)(lab:List ByteArray):thT lab os=true↔ ∃ o∈os,underB o.lab lab=true:=by
 have hmono:=mono_of_pair (f:=oCmp lab) h (fun a b hab hb=>cmpLs_lt_trans hab hb);obtain⟨f1,f2,f3⟩:=posOf_fnd os hmono;rw [thT];constructor
 ·cases hq:os[posOf (oCmp lab) os]? with
  |none=>intro h;cases h
  |some o=>intro hu;exact⟨o,List.mem_of_getElem? hq,hu⟩
 ·rintro⟨o,ho,hu⟩
  obtain⟨k,hk⟩:=List.getElem?_of_mem ho;have hkl:=List.getElem?_eq_some_iff.1 hk;have hle:=under_le hu
  have hkp:posOf (oCmp lab) os<=k:=by
   rcases Nat.lt_or_ge k (posOf (oCmp lab) os) with h1|h1
   ·have:=f2 k h1;rw [cfOf_at hk,oCmp] at this;have h2:=cmpLs_anti lab o.lab;omega
   ·exact h1
  have hpl:posOf (oCmp lab) os<os.length:=by have:=hkl.1;omega
  have hq:os[posOf (oCmp lab) os]? =some os[posOf (oCmp lab) os]:=List.getElem?_eq_getElem hpl;have hge:=f3 _ (Nat.le_refl _) hpl;rw [cfOf_at hq,oCmp] at hge;rw [hq];show underB _ lab=true
  rcases Nat.lt_or_eq_of_le hkp with h1|h1
  ·have hlt:=List.pairwise_iff_getElem.1 h _ k hpl hkl.1 h1;rw [hkl.2] at hlt
   rcases Int.lt_or_le 0 (Nm.cmpLs os[posOf (oCmp lab) os].lab lab) with h2|h2
   ·exact under_mid hu (by have:=cmpLs_anti lab os[posOf (oCmp lab) os].lab;omega) hlt
   ·exact under_self (by omega)
  ·have:os[posOf (oCmp lab) os]=o:=by
    rw [<- hkl.2];congr 1
   rw [this];exact hu
set_option maxRecDepth 100000 in
set_option maxHeartbeats 800000 in
theorem isThere_any(bb oo th:Nat)(rv:Value)(os:List GOw)(B:Nat)(na:Option Addr)(nl nc:Nat)(lab:List ByteArray)(w:World)(h:TrAt w B th rv os)(hl:os.length<=500000)(hd:TrS os)(hLab:LabAt w (fpT th rv os) os)(hn:Nm.SRow w (.slice na nl nc) lab)(hnl:lab.length<=1000000000)(hc:w.cell? ⟨bb,oo+1,none⟩=some (ptr th))(hbb:bb<w.heap.size):
 Calls Tryz.prog 60 #[.pointer (some ⟨bb,oo,none⟩),.slice na nl nc] w fun e w'=>e=.returned (.bool (thT lab os))∧Below w.heap.size w w':=by
 have hdl:(owRs os).length=os.length:=by simp [owRs]
 have hcf:∀ (tb i:Nat) (p:Value×Value),(owRs os)[i]? =some p->∀ W,Below w.heap.size w W->Blk W tb #[.pointer (some ⟨th,0,none⟩)] 93->Calls Tryz.prog 154 #[.agg #[p.1,p.2],.slice na nl nc,.pointer (some ⟨tb,0,none⟩)] W fun e w'=>e=.returned (.int .i64 (cfOf (oCmp lab) os i))∧Below W.heap.size W w':=by
  intro tb i p hp W hW kb;simp only [owRs,List.getElem?_map,Option.map_eq_some_iff] at hp;obtain⟨q,hq,rfl⟩:=hp;rw [cfOf_at hq];have hq2:=hLab q (List.mem_of_getElem? hq);exact place1L_any tb th rv (ptr q.blk) q.lv (.slice na nl nc) q.lab lab W kb (blk_below h.head hW) (hq2.row.below hW) (hn.below hW) hq2.fit.1 hq2.fit.2 hnl
 have hmono:=mono_of_pair (f:=oCmp lab) hd.1 (fun a b hab hb=>cmpLs_lt_trans hab hb);have hfnd:=posOf_fnd os hmono;have hrow:CRow w rv (owRs os).length 2 (rowCs (owRs os)):=CRow.of_owns h.rows;have hpl:=placeL_any th cmpLv rv (.slice na nl nc) (owRs os) (cfOf (oCmp lab) os) w h.head hrow (by omega) hcf (by rw [hdl];exact hmono);rw [hdl] at hpl;have HU:Hid (∀ (q:GOw) (hq:q∈os) W (hW:Below w.heap.size w W),Calls Tryz.prog 52 #[q.lv,.slice na nl nc] W fun e w'=>e=.returned (.bool (underB q.lab lab))∧Below W.heap.size W w'):=fun q hq W hW=>(under_any q.lv (.slice na nl nc) q.lab lab W ((hLab q hq).row.below hW) (hn.below hW) (hLab q hq).fit.1 (hLab q hq).fit.2 hnl).mono (by rintro e w' ⟨he,m,rfl⟩;exact⟨he,Go.below_drewN (Below.refl _ _) _⟩)
 have HV:Hid (∀ q∈os,∃ a n c,q.lv=.slice a n c):=fun q hq=>by obtain⟨a,c,e,_⟩:=(hLab q hq).row;exact⟨a,_,c,e⟩
 have HR:=Nm.hide (fun W (hW:Below w.heap.size w W)=>And.intro (blk_below h.head hW) (hrow.below hW));have HC:Hid (∀ W,Below w.heap.size w W->W.cell? ⟨bb,oo+1,none⟩=some (ptr th)):=fun W hW=>by rw [<- hc];exact hW.cell (p:=⟨bb,oo+1,none⟩) hbb
 have HF:=Nm.hide hfnd;unfold ptr at hc HC;clear h hd hLab hn hcf hmono hfnd hrow;go_enter Tryz.func60,Tryz.ntmps60;go_wp2_with fail
 refine hpl.mono ?_;rintro e w1 ⟨k,hk,rfl,b1⟩;have hkk:k=posOf (oCmp lab) os:=Fnd.unique hk HF.out;have HT:Hid (thT lab os=match os[k]? with|some o=>underB o.lab lab|none=>false):=by show _=_;rw [thT,hkk]
 obtain⟨kh,kr⟩:=HR.out w1 b1;have hc1:=HC.out w1 b1;have rh:=fun i=>blk_cell kh i
 obtain⟨_,ra,rc,rfl,_,_,hrc⟩:=kr;rw [hdl] at*;have n0:(0:Int)<=(k:Int):=by omega
 generalize (decide (k<os.length)&&decide (cfOf (oCmp lab) os k=0))=FB at*;clear hpl hk hkk HF hc kh
 by_cases hlt:k<os.length
 ·obtain⟨q,hq⟩:∃ q,os[k]? =some q:=⟨_,List.getElem?_eq_getElem hlt⟩;have hqm:=List.mem_of_getElem? hq;obtain⟨b,off,rfl,hcell⟩:=hrc (by omega);have d0:=hcell (k*2) _ ((rowCs_at (owRs os) k 0 (q.lv,ptr q.blk) (by simp [owRs,hq]) (by decide)).trans rfl);have hun:=HU.out q hqm w1 b1;obtain⟨qa,qn,qc,hqv⟩:=HV.out q hqm;rw [hqv] at d0 hun;have n2:(k:Int)<(os.length:Int):=by omega
  have HE:Hid (thT lab os=underB q.lab lab):=by show _=_;rw [HT.out,hq]
  generalize underB q.lab lab=UB at*;clear hcell hrc hq hqv HT HU HV hqm HR HC;go_wp2_with fail
  refine hun.mono ?_;rintro e w2 ⟨rfl,b2⟩;go_wp2;go_ret;exact⟨by rw [HE.out];rfl,Nm.below_two b1 b2⟩
 ·have n2:(os.length:Int)<=(k:Int):=by omega
  have HE:Hid (thT lab os=false):=by show _=_;rw [HT.out,List.getElem?_eq_none (by omega)]
  clear hrc HT HU HV HR HC;go_wp2;go_ret;exact⟨by rw [HE.out];rfl,b1⟩
def cloT(os:List GOw):List ByteArray->List ByteArray
 |[]=>[]
 |x::xs=>if thT (x::xs) os=true then x::xs else cloT os xs
theorem clo_stop{os:List GOw}{y:List ByteArray}(h:thT y os=true):cloT os y=y:=by
 cases y with
 |nil=>rfl
 |cons x xs=>rw [cloT,if_pos h]
theorem clo_go{os:List GOw}{y:List ByteArray}(h:thT y os=false)(hex:∃ j,j<=y.length∧thT (y.drop j) os=true):0<y.length∧cloT os y=cloT os (y.drop 1)∧∃ j,j<=(y.drop 1).length∧thT ((y.drop 1).drop j) os=true:=by
 obtain⟨j,hj,ht⟩:=hex
 cases j with
 |zero=>rw [List.drop_zero,h] at ht;cases ht
 |succ j=>
  cases y with
  |nil=>simp at hj
  |cons x xs=>
   refine⟨by simp,?_,j,by simpa using hj,by simpa using ht⟩;rw [cloT,if_neg (by rw [h];decide)];rfl
def slLenT:Value->Nat
 |.slice _ k _=>k
 |_=>0
theorem srow_oneT{w:World}{b off n cap:Nat}{y:List ByteArray}(h:Nm.SRow w (.slice (some ⟨b,off,none⟩) n cap) y)(hn:0<n):n=y.length∧n<=cap∧(cap=1->Nm.SRow w (.slice (some ⟨b,off,none⟩) 0 0) (y.drop 1))∧Nm.SRow w (.slice (some ⟨b,off+1,none⟩) (n-1) (cap-1)) (y.drop 1):=by
 have e:n=y.length:=by
  obtain⟨a',cap',e,_⟩:=h;simp only [Value.slice.injEq] at e;exact e.2.1
 have hc:n<=cap:=by
  obtain⟨a',cap',e2,h1,_⟩:=h;simp only [Value.slice.injEq] at e2;omega
 subst e;refine⟨rfl,hc,fun hcap=>?_,h.drop (k:=1) (by omega)⟩;have:=h.drop_all hcap;rw [show y.length-1=0 by omega] at this;exact this
theorem srow_atT{w:World}{v:Value}{y:List ByteArray}(h:Nm.SRow w v y)(hy:0<y.length):∃ b off cap,v=.slice (some ⟨b,off,none⟩) y.length cap:=by
 obtain⟨a,cap,rfl,_,_,_,hc⟩:=h;obtain⟨b,off,rfl,_⟩:=hc (by intro e;subst e;simp at hy);exact⟨b,off,cap,rfl⟩
set_option maxRecDepth 100000 in
set_option maxHeartbeats 800000 in
theorem treeClosest_any(bb oo th:Nat)(rv:Value)(os:List GOw)(B:Nat)(nv:Value)(lab:List ByteArray)(w:World)(h:TrAt w B th rv os)(hl:os.length<=500000)(hd:TrS os)(hLab:LabAt w (fpT th rv os) os)(hn:Nm.SRow w nv lab)(hnl:lab.length<=1000)(hc:w.cell? ⟨bb,oo+1,none⟩=some (ptr th))(hbb:bb<w.heap.size)(hex:∃ j,j<=lab.length∧thT (lab.drop j) os=true):
 Calls Tryz.prog 55 #[.pointer (some ⟨bb,oo,none⟩),nv] w fun e w'=>∃ v,e=.returned v∧Nm.SRow w' v (cloT os lab)∧Below w.heap.size w w':=by
 have HI:Hid (∀ W,Below w.heap.size w W->∀ a n c y,Nm.SRow W (.slice a n c) y->y.length<=1000->Calls Tryz.prog 60 #[.pointer (some ⟨bb,oo,none⟩),.slice a n c] W fun e w'=>e=.returned (.bool (thT y os))∧Below W.heap.size W w'):=fun W hW a n c y hy hyl=>isThere_any bb oo th rv os B a n c y W (h.below hW) hl hd (fun o ho=>(hLab o ho).outs (Outs.below hW) (fun b hb=>.inl hb)) hy (by omega) (by rw [<- hc];exact hW.cell (p:=⟨bb,oo+1,none⟩) hbb) (by have:=hW.size;omega)
 obtain⟨R,hR⟩:∃ R,R=cloT os lab:=⟨_,rfl⟩;rw [<- hR];have HS:=Nm.hide (And.intro hn (And.intro hR.symm hex));obtain⟨na,nc,rfl,_⟩:=hn;clear h hd hLab hc hex hR;go_enter Tryz.func55,Tryz.ntmps55;go_wp2
 go_loopw [1] (fun v wr=>∃ y:List ByteArray,Nm.SRow wr v y∧y.length<=1000∧cloT os y=R∧(∃ j,j<=y.length∧thT (y.drop j) os=true)∧Below w.heap.size w wr) (fun v _=>slLenT v)
 case atStart=>exact⟨_,HS.out.1,hnl,HS.out.2.1,HS.out.2.2,Below.refl _ _⟩
 case round=>
  obtain⟨y,hy,hyl,hyR,hyx,hbel⟩:=hrel;have HY:=Nm.hide (And.intro hyR hyx);have HY2:=Nm.hide hy;obtain⟨ya,yc,rfl,_⟩:=hy;have hit:=HI.out _ hbel _ _ _ y HY2.out hyl;clear hyR hyx
  cases hU:thT y os with
  |true=>
   rw [hU] at hit;have HN:=Nm.hide (clo_stop hU);clear hU;go_wp2_with fail
   refine hit.mono ?_;rintro e w1 ⟨rfl,b1⟩;go_wp2;go_ret;refine⟨_,rfl,?_,Nm.below_two hbel b1⟩;rw [<- HY.out.1,HN.out]
   exact HY2.out.below b1
  |false=>
   rw [hU] at hit;obtain⟨hpos,hgo,hex2⟩:=clo_go hU HY.out.2;have HG:=Nm.hide (And.intro hgo hex2);clear hU hgo hex2;obtain⟨yb,yo,yc2,ev⟩:=srow_atT HY2.out hpos;simp only [Value.slice.injEq,true_and] at ev;obtain⟨rfl,rfl⟩:=ev;have hone:=srow_oneT HY2.out hpos;have hcl:=hone.2.1;have HO:=Nm.hide hone;clear hone;have hl1:(1:Int)<=(y.length:Int):=by omega
   by_cases hc1:yc=1
   ·subst hc1;have HS1:=Nm.hide (HO.out.2.2.1 rfl);go_wp2_with (go_at_call 60;refine hit.mono ?_;rintro e w1 ⟨rfl,b1⟩)
    go_roundw
    case rel=>exact⟨y.drop 1,HS1.out.below b1,by simp;omega,by rw [<- HG.out.1];exact HY.out.1,HG.out.2,Nm.below_two hbel b1⟩
    case measure=>simp only [slLenT];omega
   ·have hgt:1<yc:=by omega
    go_wp2_with (go_at_call 60;refine hit.mono ?_;rintro e w1 ⟨rfl,b1⟩)
    go_roundw
    case rel=>exact⟨y.drop 1,(HO.out.2.2.2).below b1,by simp;omega,by rw [<- HG.out.1];exact HY.out.1,HG.out.2,Nm.below_two hbel b1⟩
    case measure=>simp only [slLenT];omega
def cutT(os:List GOw)(lab:List ByteArray):Nat->Option GOw
 |0=>none
 |n+1=>if hasT (lab.drop n) 2 os=true then os[posOf (oCmp (lab.drop n)) os]? else cutT os lab n
def cutV:Option GOw->Value
 |some o=>.tuple #[ptr o.blk,.bool true]
 |none=>.tuple #[.pointer none,.bool false]
set_option maxRecDepth 100000 in
set_option maxHeartbeats 1600000 in
theorem treeCut_any(bb oo th:Nat)(rv:Value)(os:List GOw)(B:Nat)(na:Option Addr)(nc:Nat)(lab:List ByteArray)(aa:Option Addr)(an ac:Nat)(w:World)(h:TrAt w B th rv os)(hl:os.length<=500000)(hd:TrS os)(hLab:LabAt w (fpT th rv os) os)(hn:Nm.SRow w (.slice na lab.length nc) lab)(hnl:lab.length<=1000)(hc:w.cell? ⟨bb,oo+1,none⟩=some (ptr th))(hca:w.cell? ⟨bb,oo,none⟩=some (.slice aa an ac))(hbb:bb<w.heap.size)(han:an<=lab.length):
 Calls Tryz.prog 53 #[.pointer (some ⟨bb,oo,none⟩),.slice na lab.length nc] w fun e w'=>e=.returned (cutV (cutT os lab (lab.length-an)))∧Below w.heap.size w w':=by
 have HG:Hid (∀ W,Below w.heap.size w W->∀ a n c y,Nm.SRow W (.slice a n c) y->y.length<=1000->Calls Tryz.prog 101 #[ptr th,.slice a n c] W fun e w'=>Below W.heap.size W w'∧((isIn (oCmp y) os=true∧∃ o,os[posOf (oCmp y) os]? =some o∧Nm.cmpLs o.lab y=0∧e=.returned (.tuple #[ptr o.blk,.bool true]))∨(isIn (oCmp y) os=false∧e=.returned (.tuple #[.pointer none,.bool false])))):=fun W hW a n c y hy hyl=>getOwner_any th rv os B (.slice a n c) y W (h.below hW) hl hd.1 (fun o ho=>(hLab o ho).outs (Outs.below hW) (fun b hb=>.inl hb)) hy (by omega)
 have HH:Hid (∀ o∈os,∀ W,Below w.heap.size w W->Calls Tryz.prog 102 #[ptr o.blk,.int .i64 2] W fun e w'=>e=.returned (.bool (isIn (sCmp 2) o.ss))∧Below W.heap.size W w'):=fun o ho W hW=>ownerHas_any o B 2 W ((h.below hW).owners o ho) (by have:=(hd.2 o ho).2.1;omega) (hd.2 o ho).1
 have HC:Hid (∀ W,Below w.heap.size w W->W.cell? ⟨bb,oo+1,none⟩=some (ptr th)):=fun W hW=>by rw [<- hc];exact hW.cell (p:=⟨bb,oo+1,none⟩) hbb
 have HS:=Nm.hide hn;unfold ptr at HG HH HC;have hcn:lab.length<=nc:=by obtain⟨a',c',e2,h1,_⟩:=hn;simp only [Value.slice.injEq] at e2;omega
 obtain⟨R,hR⟩:∃ R,R=cutT os lab (lab.length-an):=⟨_,rfl⟩;rw [<- hR];have HR:=Nm.hide hR;clear h hd hLab hc hn hR;have e1:(lab.length:Int)-(an:Int)-1=(((lab.length-an:Nat):Int))-1:=by omega
 have HE1:=Nm.hide e1;clear e1;go_enter Tryz.func53,Tryz.ntmps53;go_wp2
 go_loopw [6] (fun i wr=>∃ n:Nat,n<=lab.length∧i=.int .i64 ((n:Int)-1)∧cutT os lab n=R∧Below w.heap.size w wr) (fun i _=>(intOf i+1).toNat)
 case atStart=>exact⟨lab.length-an,by omega,by rw [<- HE1.out],HR.out.symm,Below.refl _ _⟩
 case round=>
  obtain⟨n,hnn,rfl,hcR,hbel⟩:=hrel
  cases n with
  |zero=>
   have HQ:Hid (R=none):=by show _=_;rw [<- hcR];rfl
   have i0:((0:Nat):Int)-1<0:=by omega
   clear hcR;go_wp2;go_ret2
   exact⟨by rw [HQ.out];rfl,hbel⟩
  |succ n=>
   have e2:((n+1:Nat):Int)-1=(n:Int):=by omega
   rw [e2];have HCR:=Nm.hide hcR;have i0:(0:Int)<=(n:Int):=by omega
   have i1:(n:Int)<=(lab.length:Int):=by omega
   have i2:n<nc:=by omega
   clear hcR e2;obtain⟨b,off,cap,ev⟩:=srow_atT HS.out (by omega);simp only [Value.slice.injEq,true_and] at ev;obtain⟨rfl,rfl⟩:=ev
   have hsr:Nm.SRow wr.drew (.slice (some ⟨b,off+n,none⟩) (lab.length-n) (nc-n)) (lab.drop n):=by
    have:=(HS.out.drop (k:=n) (by omega)).below hbel.drew;simp only [Option.map_some,Nm.addr_add] at this;exact this
   have i3:¬nc=n:=by omega
   have hc1:=HC.out _ hbel;go_wp2;refine wp_region_last (fun X=>X.cell? ⟨bb,oo+1,none⟩=some (.pointer (some ⟨th,0,none⟩))) 1000 (by kernel_rfl) (HC.out _ hbel.drew) (fun hHeld=>?_);refine tkA 0 rfl ?_;refine tkA 1 rfl ?_;refine tkA 2 rfl ?_;refine tkA 3 rfl ?_;refine tkA 4 rfl ?_;refine tkA 5 rfl ?_;refine tkA 6 rfl ?_;refine wpAnyL_one (i:=7) (by kernel_rfl) rfl (fun K hK=>?_);go_simp
   try simp only [if_neg i3]
   refine(HG.out _ hbel.drew _ _ _ (lab.drop n) hsr (by simp;omega)).mono ?_;rintro e w1 ⟨b1,⟨hin,o,ho,hcm,rfl⟩|⟨hin,rfl⟩⟩
   ·have hbel1:=Nm.below_two hbel.drew b1;have hom:=List.mem_of_getElem? ho;have hhas:=HH.out o hom w1 hbel1
    have HT:Hid (cutT os lab (n+1)=if isIn (sCmp 2) o.ss=true then some o else cutT os lab n):=by
     show _=_
     rw [cutT,hasT,ho];simp only [hin,Bool.true_and]
    clear ho hcm hin hom b1;go_wp2_with fail
    refine hK.out _ _ (HC.out _ hbel1) (fun hH=>?_);clear hK K;refine tkA 8 rfl ?_;refine tkA 9 rfl ?_;refine tkA 10 rfl ?_;refine wpAnyL_one (i:=11) (by kernel_rfl) rfl (fun K hK=>?_);go_simp;refine hK.out _ _ (HC.out _ hbel1) (fun hH2=>?_);clear hK K;refine wpAnyL_one (i:=12) (by kernel_rfl) rfl (fun K hK=>?_);go_simp;refine hK.out _ _ (HC.out _ hbel1) (fun hH3=>?_);clear hK K;refine wpAnyL_done (by kernel_rfl) ?_;clear hH hH2 hH3 hHeld hc1 hsr
    cases hi:isIn (sCmp 2) o.ss with
    |true=>
     rw [hi] at hhas;have HQ:Hid (R=some o):=by show _=_;rw [<- HCR.out,HT.out,hi];rfl
     clear hi;go_wp2_with fail
     refine hhas.mono ?_;rintro e w2 ⟨rfl,b2⟩;go_wp2;go_ret2
     exact⟨by rw [HQ.out];rfl,Nm.below_two hbel1 b2⟩
    |false=>
     rw [hi] at hhas;have HQ:Hid (cutT os lab n=R):=by show _=_;rw [<- HCR.out,HT.out,hi];rfl
     clear hi;go_wp2_with (go_at_call 102;refine hhas.mono ?_;rintro e w2 ⟨rfl,b2⟩)
     go_roundw
     case rel=>exact⟨n,by omega,by go_num,HQ.out,Nm.below_two hbel1 b2⟩
     case measure=>simp [intOf]
   ·have hbel1:=Nm.below_two hbel.drew b1
    have HQ:Hid (cutT os lab n=R):=by
     show _=_
     rw [<- HCR.out,cutT,hasT]
     cases os[posOf (oCmp (lab.drop n)) os]? with
     |none=>rfl
     |some o=>simp [hin]
    clear hin b1;go_wp2_with fail
    refine hK.out _ _ (HC.out _ hbel1) (fun hH=>?_);clear hK K;refine tkA 8 rfl ?_;refine tkA 9 rfl ?_;refine tkA 10 rfl ?_;refine wpAnyL_one (i:=11) (by kernel_rfl) rfl (fun K hK=>?_);go_simp;refine hK.out _ _ (HC.out _ hbel1) (fun hH2=>?_);clear hK K;refine wpAnyL_one (i:=12) (by kernel_rfl) rfl (fun K hK=>?_);go_simp;refine hK.out _ _ (HC.out _ hbel1) (fun hH3=>?_);clear hK K;refine wpAnyL_done (by kernel_rfl) ?_;clear hH hH2 hH3 hHeld hc1 hsr;go_wp2;go_roundw
    case rel=>exact⟨n,by omega,by go_num,HQ.out,hbel1⟩
    case measure=>simp [intOf]
end Go.Proofs.YtcodajnebegdiaaGreat
