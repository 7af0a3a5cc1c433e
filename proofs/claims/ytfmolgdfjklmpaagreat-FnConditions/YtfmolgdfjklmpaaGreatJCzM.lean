import Derived.Test.YtfmolgdfjklmpaaGreatJZrM
import Derived.Test.YtfmolgdfjklmpaaGreatJBzY
import Derived.Test.YtfmolgdfjklmpaaGreatJBzC
import Derived.Test.YtfmolgdfjklmpaaGreatZbZ
import Derived.Test.YtfmolgdfjklmpaaGreatJSls
namespace Go.Proofs.YtfmolgdfjklmpaaGreat
open Go.RowKit
set_option linter.unusedVariables false
def eqSz(a b:Sz):Bool:=decide (a.own=b.own)&&decide (a.ty=b.ty)&&decide (a.tt=b.tt)&&decide (a.da=b.da)
theorem eqSz_iff{a b:Sz}:eqSz a b=true↔a=b:=by
 obtain⟨a1,a2,a3,a4⟩:=a;obtain⟨b1,b2,b3,b4⟩:=b;simp only [eqSz,Bool.and_eq_true,decide_eq_true_eq,Sz.mk.injEq];constructor
 ·rintro⟨⟨⟨h1,h2⟩,h3⟩,h4⟩;exact⟨h1,h2,h3,h4⟩
 ·rintro⟨h1,h2,h3,h4⟩;exact⟨⟨⟨h1,h2⟩,h3⟩,h4⟩
def eqZs:List Sz->List Sz->Bool
 |[],[]=>true
 |a::xs,b::ys=>eqSz a b&&eqZs xs ys
 |_,_=>false
theorem eqZs_iff:∀ {xs ys:List Sz},eqZs xs ys=true↔xs=ys
 |[],[]=>by simp [eqZs]
 |[],b::ys=>by simp [eqZs]
 |a::xs,[]=>by simp [eqZs]
 |a::xs,b::ys=>by
  rw [eqZs,Bool.and_eq_true,eqSz_iff,eqZs_iff];simp
theorem eqZs_all{xs ys:List Sz}(hl:xs.length=ys.length)(h:∀ (j:Nat) (a b:Sz),xs[j]? =some a->ys[j]? =some b->a=b):eqZs xs ys=true:=by
 rw [eqZs_iff];apply List.ext_getElem?;intro j
 by_cases hj:j<xs.length
 ·have h1:xs[j]? =some xs[j]:=List.getElem?_eq_getElem hj;have h2:ys[j]? =some ys[j]:=List.getElem?_eq_getElem (by omega);rw [h1,h2,h j _ _ h1 h2]
 ·rw [List.getElem?_eq_none (by omega),List.getElem?_eq_none (by omega)]
theorem eqZs_not{xs ys:List Sz}{j:Nat}{a b:Sz}(h1:xs[j]? =some a)(h2:ys[j]? =some b)(h:eqSz a b=false):eqZs xs ys=false:=by
 cases hq:eqZs xs ys with
 |false=>rfl
 |true=>
  rw [eqZs_iff] at hq;subst hq;rw [h1] at h2;obtain rfl:=Option.some.inj h2;rw [eqSz_iff.2 rfl] at h;cases h
theorem eqZs_len{xs ys:List Sz}(h:xs.length≠ys.length):eqZs xs ys=false:=by
 cases hq:eqZs xs ys with
 |false=>rfl
 |true=>rw [eqZs_iff] at hq;subst hq;exact absurd rfl h
def zOK(ps:List Zp)(o:ByteArray):Bool:=decide ((bldE (zoneRecs ps) o).1=0)&&eqZs (bldZ (zoneRecs ps)) (ps.map (·.1))
theorem bldE_nil(o:ByteArray):(bldE [] o).1≠0:=by
 rw [bldE];split
 ·decide
 ·rw [if_neg (by simp)];have h1:badOne o [] 0=none:=rfl;have h2:badI ([].map itemOf)= -1:=rfl;rw [h1];simp only
  rw [h2,if_neg (by decide)];have h3:rulesI (itsOf []) (Nm.foldS o)=(20,-1):=rfl;rw [h3];decide
theorem zOK_big{ps:List Zp}{o:ByteArray}(h:500<ps.length∨500<dsum ps):zOK ps o=false:=by
 rw [zOK,zoneRecs,if_pos h,decide_eq_false (bldE_nil o)];rfl
theorem zOK_recs{ps:List Zp}{o:ByteArray}(h:zOK ps o=true):(bldE (zoneRecs ps) o).1=0∧bldZ (zoneRecs ps)=ps.map (·.1):=by
 simp only [zOK,Bool.and_eq_true,decide_eq_true_eq] at h;exact⟨h.1,eqZs_iff.1 h.2⟩
theorem recs_fit{ps:List Zp}{N:Nat}(h:∀ p∈ps,p.1.own.size<=N∧∀ x∈p.1.da,x.size<=N):∀ r∈zoneRecs ps,r.own.size<=N∧r.da.size<=N:=by
 intro r hr;unfold zoneRecs at hr
 split at hr
 ·cases hr
 ·simp only [recsAll,recsOf,List.mem_flatMap,List.mem_map] at hr;obtain⟨p,hp,d,hd,rfl⟩:=hr;exact⟨(h p hp).1,(h p hp).2 d hd⟩
theorem TInv.nm{l:List It}{os:List GOw}(h:TInv l os)(hl:∀ y∈l,GoodI y){o:GOw}(ho:o∈os):Nm.split o.nm=some o.lab:=by
 obtain⟨i,x,hF,h1,h2⟩:=h.own o ho;rw [h1,h2];exact(hl x hF.mem).1
def fndZ(ss:List Sz)(name:ByteArray)(t:Int):Option Sz:=ss.find? fun s=>decide (s.ty=t)&&sameS s.own name
theorem fnd_at{os:List GOw}{name:ByteArray}{lab:List ByteArray}{t:Int}(hn:Nm.split name=some lab)(hnm:∀ o∈os,Nm.split o.nm=some o.lab):∀ g∈grT os,(decide ((szT g).ty=t)&&sameS (szT g).own name)=(decide (g.2.ty=t)&&decide (Nm.cmpLs g.1.lab lab=0)):=by
 intro g hg;obtain⟨h1,h2⟩:=grT_mem.1 hg;simp only [szT];rw [same_cmp (hnm g.1 h1) hn];congr 1
theorem fnd_yes{l:List It}{os:List GOw}(hT:TInv l os)(hl:∀ y∈l,GoodI y){name:ByteArray}{lab:List ByteArray}{t:Int}(hn:Nm.split name=some lab){o:GOw}{s:GSe}(ho:o∈os)(hs:s∈o.ss)(h1:Nm.cmpLs o.lab lab=0)(h2:s.ty=t):fndZ (zoneT os) name t=some (szT (o,s)):=by
 have hnm:=fun o ho=>hT.nm hl (o:=o) ho
 rw [fndZ,zoneT,List.find?_map]
 have e:(grT os).find? ((fun s=>decide (s.ty=t)&&sameS s.own name)∘szT)=some (o,s):=by
  obtain⟨i,g,hF⟩:=First.ex (P:=fun g:GOw×GSe=>g.2.ty=t∧Nm.cmpLs g.1.lab lab=0) (l:=grT os) ⟨(o,s),grT_mem.2 ⟨ho,hs⟩,h2,h1⟩;have hg:=grT_mem.1 hF.mem;have e1:g.1=o:=hT.one hg.1 ho (by rw [cmpLs_eq_right (cmpLs_symm h1)|>.symm];exact hF.2.1.2);have e2:g.2=s:=(hT.sorted.2 o ho).1.one (by rw [<- e1];exact hg.2) hs (by rw [hF.2.1.1,h2]);have e3:g=(o,s):=by rw [<- e1,<- e2]
  rw [<- e3];refine hF.find _ (fun y hy=>?_)
  show(decide ((szT y).ty=t)&&sameS (szT y).own name)=true↔_
  rw [fnd_at hn hnm y hy];simp
 rw [e];rfl
theorem fnd_no{os:List GOw}{name:ByteArray}{lab:List ByteArray}{t:Int}(hn:Nm.split name=some lab)(hnm:∀ o∈os,Nm.split o.nm=some o.lab)(h:∀ o∈os,Nm.cmpLs o.lab lab=0->∀ s∈o.ss,s.ty≠t):fndZ (zoneT os) name t=none:=by
 rw [fndZ,List.find?_eq_none];intro z hz;obtain⟨g,hg,rfl⟩:=List.mem_map.1 hz;have hg':=grT_mem.1 hg;rw [fnd_at hn hnm g hg];simp only [Bool.and_eq_true,decide_eq_true_eq,not_and];intro h1 h2;exact h g.1 hg'.1 h2 g.2 hg'.2 h1
def sz0:Sz:=⟨⟨#[]⟩,0,0,[]⟩
theorem under_self{a b:List ByteArray}(h:Nm.cmpLs a b=0):underB a b=true:=by
 rw [underB_same h (b:=b) (b':=b) ((cmpLs_zero _ _).2 rfl),underB];simp [(cmpLs_zero b b).2 rfl]
def joB(ls:List ByteArray):ByteArray:=⟨(Nm.joinL ls).toArray⟩
def Gl(ls:List ByteArray):Prop:=(∀ x∈ls,1<=x.size∧x.size<=63)∧Nm.wsum ls<=254
theorem gl_split{s:ByteArray}{ls:List ByteArray}(h:Nm.split s=some ls):Gl ls:=⟨(Nm.split_join h).2,by have:=Nm.split_size h;omega⟩
theorem Gl.drop{ls:List ByteArray}(h:Gl ls)(k:Nat):Gl (ls.drop k):=⟨drop_ok h.1 k,Nat.le_trans (Nm.wsum_drop_le ls k) h.2⟩
theorem Gl.jo{ls:List ByteArray}(h:Gl ls):Nm.split (joB ls)=some ls:=split_of_join h.1 h.2
theorem jo_size{ls:List ByteArray}(h:Gl ls):(joB ls).size<=255:=by
 have h1:=h.2;have h2:=Nm.joinL_length ls;simp [joB,ByteArray.size]
 omega
theorem under_iff{a b:List ByteArray}:underB a b=true↔b.length<=a.length∧Nm.cmpLs (a.drop (a.length-b.length)) b=0:=by
 rw [underB];simp
theorem apex_in{ps:List Zp}{o:ByteArray}{al:List ByteArray}(hz:zOK ps o=true)(ha:Nm.split o=some al):∃ p∈ps,∃ xs,Nm.split p.1.own=some xs∧Nm.cmpLs xs al=0:=by
 have h0:=(zOK_recs hz).1;rw [bldE,if_neg (by rw [ha];simp)] at h0
 split at h0
 ·exact absurd h0 (by simp)
 ·cases hb:badOne o (zoneRecs ps) 0 with
  |some c=>rw [hb] at h0;exact absurd h0 (bad_some _ _ c.1 c.2 hb)
  |none=>
   rw [hb] at h0;simp only at h0
   split at h0
   ·exact absurd h0 (by simp)
   ·split at h0
    ·rename_i h1;exact absurd h0 h1
    ·rename_i h1;have h1:(rulesI (itsOf (zoneRecs ps)) (Nm.foldS o)).1=0:=by simpa using h1
     have hg:∀ y∈(zoneRecs ps).map itemOf,GoodI y:=by
      intro y hy;obtain⟨r,hr,rfl⟩:=List.mem_map.1 hy;exact good_item (one_ok (bad_none _ _ hb r hr)).1
     have h6:hasI (itsOf (zoneRecs ps)) (Nm.foldS o) 6=true:=by
      rw [rulesI] at h1
      split at h1
      ·exact absurd h1 (by simp)
      ·split at h1
       ·exact absurd h1 (by simp)
       ·rename_i h2;simpa using h2
     obtain⟨y,hy,e1,-⟩:=(hasI_all hg _ _).1 h6;have hgy:=hg y hy;obtain⟨r,hr,rfl⟩:=List.mem_map.1 hy;rw [zoneRecs] at hr
     split at hr
     ·cases hr
     ·obtain⟨p,hp,hr⟩:=List.mem_flatMap.1 hr;obtain⟨d,-,rfl⟩:=List.mem_map.1 hr;have hs:Nm.split p.1.own=some _:=hgy.1;exact⟨p,hp,_,hs,(fold_lab hs ha).1 e1⟩
structure TZ (os:List GOw) (o:ByteArray) (al:List ByteArray):Prop where
 nm:∀ q∈os,Nm.split q.nm=some q.lab
 und:∀ q∈os,underB q.lab al=true
 one:∀ q∈os,∀ r∈os,Nm.cmpLs q.lab r.lab=0->q=r
 srt:OwS os∧∀ q∈os,SeS q.ss
 full:∀ q∈os,∃ s,s∈q.ss
 ap:Nm.split o=some al
 top:∃ q∈os,Nm.cmpLs q.lab al=0
theorem tz_of{ps:List Zp}{o:ByteArray}{al:List ByteArray}{l:List It}{os:List GOw}(hT:TInv l os)(hl:∀ y∈l,GoodI y)(hu:∀ y∈l,isUnderS y.r.own o=true)(ha:Nm.split o=some al)(hz:zOK ps o=true)(hzs:ps.map (·.1)=zoneT os):TZ os o al:=by
 have hnm:=fun q (hq:q∈os)=>hT.nm hl hq
 refine⟨hnm,fun q hq=>?_,fun q hq r hr e=>hT.one hq hr e,⟨hT.sorted.1,fun q hq=>(hT.sorted.2 q hq).1⟩,fun q hq=>?_,ha,?_⟩
 ·obtain⟨i,x,hF,h1,h2⟩:=hT.own q hq;have:=hu x hF.mem;rw [<- h1,isUnder_some (hnm q hq) ha] at this;exact this
 ·obtain⟨i,x,hF,h1,h2⟩:=hT.own q hq;obtain⟨q2,hq2,h3,s,hs,-⟩:=hT.cov x hF.mem;have h4:Nm.cmpLs (labI x) q.lab=0:=hF.2.1;have h5:Nm.cmpLs (labI x) q2.lab=0:=h3;have e:=hT.one hq hq2 (by rw [cmpLs_eq_left (cmpLs_symm h4)];exact h5);rw [e];exact⟨s,hs⟩
 ·obtain⟨p,hp,xs,h1,h2⟩:=apex_in hz ha;have hm:p.1∈zoneT os:=by rw [<- hzs];exact List.mem_map_of_mem hp
  obtain⟨g,hg,e⟩:=List.mem_map.1 hm;have hg1:=(grT_mem.1 hg).1;refine⟨g.1,hg1,?_⟩;have h3:=hnm g.1 hg1;rw [<- e] at h1;have h4:Nm.split g.1.nm=some xs:=h1;rw [h3] at h4;rw [Option.some.inj h4];exact h2
def bzO(list:List Rr)(apex:ByteArray):ByteArray:=if(bldE list apex).1=0 then apex else ByteArray.empty
def bzZ(list:List Rr)(apex:ByteArray):List Sz:=if(bldE list apex).1=0 then bldZ list else []
def bzI(list:List Rr)(apex:ByteArray):Int:=if(bldE list apex).1=0 then 0 else(bldE list apex).2
theorem bz_uni{list:List Rr}{apex:ByteArray}{w w':World}{e:Ending}(h:BzPost list apex w e w'):∃ a c ps,e=.returned (.tuple #[.agg #[.string (bzO list apex),.slice a ps.length c],.int .i64 (bldE list apex).1,.int .i64 (bzI list apex)])∧ps.map (·.1)=bzZ list apex∧ZOwn w' w.heap.size (.slice a ps.length c) ps∧Below w.heap.size w w':=by
 obtain⟨hb,h0,h1⟩:=h
 by_cases hc:(bldE list apex).1=0
 ·obtain⟨v,ps,rfl,hp,hz⟩:=h0 hc;obtain⟨a,c,rfl⟩:=own_sl hz.outer;exact⟨a,c,ps,by rw [bzO,bzI,if_pos hc,if_pos hc,hc],by rw [bzZ,if_pos hc];exact hp,hz,hb⟩
 ·exact⟨none,0,[],by rw [h1 hc,bzO,bzI,if_neg hc,if_neg hc];rfl,by rw [bzZ,if_neg hc];rfl,ZOwn.nil _ _,hb⟩
end Go.Proofs.YtfmolgdfjklmpaaGreat
