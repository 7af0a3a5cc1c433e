import Derived.Test.YtlddifpnkeafpaaGreatJFnT
import Derived.Test.YtlddifpnkeafpaaGreatJFsT
set_option linter.unusedVariables false
set_option maxRecDepth 100000
set_option maxHeartbeats 3200000
namespace Go.Proofs.YtlddifpnkeafpaaGreat
open Go.RowKit
structure Stp where
 kd:Int
 ss:List Sz
 wild:Bool
 tgt:ByteArray
abbrev NZ(k:Int):Stp:=⟨k,[],false,⟨#[]⟩⟩
def MU(l:List ByteArray):ByteArray:=l.headD ⟨#[]⟩
def oH(ss:List Sz)(name:ByteArray):List Sz:=ss.filter fun s=>eQ s.own name
def FZ(ss:List Sz)(q:Int):Stp:=
 if q=255∧0<ss.length then⟨3,ss,false,⟨#[]⟩⟩ else
 match ss.find? (fun s=>decide (s.ty=q)) with
 |some s=>⟨3,[s],false,⟨#[]⟩⟩
 |none=>match ss.find? (fun s=>decide (s.ty=5)) with
  |some s=>⟨4,[s],false,MU s.da⟩
  |none=>NZ 5
def MF(name:ByteArray)(s:Sz):Sz:=⟨name,s.ty,s.tt,s.da⟩
def Ct(name:ByteArray)(x:Stp):Stp:=⟨x.kd,x.ss.map (MF name),true,x.tgt⟩
def xB(x:ByteArray):ByteArray:=⟨#[1,42]⟩++x
def AP(s:Sz)(r:ByteArray×Int):Stp:=if r.2=0 then⟨6,[s],false,r.1⟩ else⟨7,[s],false,⟨#[]⟩⟩
def lkN(N:Nd)(ss:List Sz)(th:ByteArray->Bool)(name:ByteArray)(q:Int):Stp:=
 if N.kd=0 then NZ 1
 else if N.kd=4∨N.kd=5 then⟨2,[(lS ss N.cut 2).getD Ck],false,⟨#[]⟩⟩
 else if N.kd=3∨N.kd=2 then FZ (oH ss name) q
 else match lS ss N.iK 39 with
  |some s=>AP s (zZ name N.iK (MU s.da))
  |none=>if th (xB N.iK)=true then Ct name (FZ (oH ss (xB N.iK)) q) else NZ 8
def Nf(ps:List Zp)(o name:ByteArray)(q:Int):Stp:=lkN (tX ps o name) (ps.map (·.1)) (wZ ps o) name q
section
variable {N:Nd}{ss:List Sz}{th:ByteArray->Bool}{name:ByteArray}{q:Int}
theorem aGa(h:N.kd=0):lkN N ss th name q=NZ 1:=if_pos h
theorem aGb(h:N.kd=4∨N.kd=5):lkN N ss th name q=⟨2,[(lS ss N.cut 2).getD Ck],false,⟨#[]⟩⟩:=by rw [lkN,if_neg (by omega),if_pos h]
theorem U3(h:N.kd=3∨N.kd=2):lkN N ss th name q=FZ (oH ss name) q:=by rw [lkN,if_neg (by omega),if_neg (by omega),if_pos h]
theorem aGc(h:N.kd=1){s:Sz}(hs:lS ss N.iK 39=some s):lkN N ss th name q=AP s (zZ name N.iK (MU s.da)):=by rw [lkN,if_neg (by omega),if_neg (by omega),if_neg (by omega),hs]
theorem aGd(h:N.kd=1)(hs:lS ss N.iK 39=none):lkN N ss th name q=if th (xB N.iK)=true then Ct name (FZ (oH ss (xB N.iK)) q) else NZ 8:=by rw [lkN,if_neg (by omega),if_neg (by omega),if_neg (by omega),hs]
end
def tZ(c:dG)(q:Int):List Sz:=(c.ss.filter fun s=>decide (q=s.ty)||decide (q=255)).map fun s=>mO (c,s)
def atG(c:dG)(q:Int):Stp:=
 if 0<(tZ c q).length then⟨3,tZ c q,false,⟨#[]⟩⟩ else
 match c.ss.find? (fun s=>decide (s.ty=5)) with
 |some s=>⟨4,[mO (c,s)],false,MU (mO (c,s)).da⟩
 |none=>NZ 5
def H6(os:List dG)(lab:List ByteArray)(q:Int):Stp:=if gY (dX lab) os=true then(match os[posOf (dX lab) os]? with|some c=>atG c q|none=>NZ 5) else NZ 5
variable {B k p zb:Nat}{W w:World}{a b c u y:Value}{al lab:List ByteArray}{l:List Int}{o:ByteArray}{os:List dG}{ps:List Zp}{q:Int}
theorem Uy:∀ {l:List nY},VE l->(l.filter fun s=>decide (q=s.ty))=(l.find? fun s=>decide (s.ty=q)).toList
 |[],_=>rfl
 |s::l,h=>by
  obtain⟨h1,h2⟩:=List.pairwise_cons.1 h
  by_cases e:s.ty=q
  ·subst e;rw [List.filter_cons,if_pos (by simp),List.find?_cons_of_pos (by simp)];rw [List.filter_eq_nil_iff.2 (fun x hx=>by have:=h1 x hx;simp;omega)];rfl
  rw [List.filter_cons,if_neg (by simp;omega),List.find?_cons_of_neg (by simpa using e)];exact Uy h2
theorem Uz{c:dG}(h:VE c.ss)(hq:q≠255):tZ c q=((c.ss.find? fun s=>decide (s.ty=q)).map fun s=>mO (c,s)).toList:=by
 have e:(c.ss.filter fun s=>decide (q=s.ty)||decide (q=255))=c.ss.filter fun s=>decide (q=s.ty):=by
  congr 1;funext s
  simp [hq]
 rw [tZ,e,Uy h];cases c.ss.find? fun s=>decide (s.ty=q)<;>rfl
theorem aGe(c:dG):tZ c 255=c.ss.map fun s=>mO (c,s):=by
 rw [tZ,List.filter_eq_self.2 (fun s _=>by simp)]
theorem at_eq{c:dG}(h:VE c.ss)(hf:∃ s,s∈c.ss):atG c q=FZ (c.ss.map fun s=>mO (c,s)) q:=by
 obtain⟨s0,Nq⟩:=hf;have hl:=List.length_pos_of_mem Nq;rw [atG,FZ]
 by_cases hq:q=255
 ·subst hq;rw [aGe,if_pos (by simpa using hl),if_pos (⟨rfl,by simpa using hl⟩:(255:Int)=255∧0<(c.ss.map fun s=>mO (c,s)).length)]
 rw [Uz h hq,if_neg (fun e:q=255∧_=>hq e.1),List.find?_map,List.find?_map];have e1:((fun s:Sz=>decide (s.ty=q))∘fun s=>mO (c,s))=fun s=>decide (s.ty=q):=rfl
 have e2:((fun s:Sz=>decide (s.ty=5))∘fun s=>mO (c,s))=fun s=>decide (s.ty=5):=rfl
 rw [e1,e2]
 cases c.ss.find? fun s=>decide (s.ty=q) with
 |some s=>rw [if_pos (by simp)];rfl
 |none=>
  rw [if_neg (by simp)];cases c.ss.find? fun s=>decide (s.ty=5)<;>rfl
theorem at_nil(q:Int):FZ [] q=NZ 5:=by
 rw [FZ,if_neg (by simp)];rfl
theorem aL8(name:ByteArray)(ss:List Sz)(q:Int):FZ (ss.map (MF name)) q=⟨(FZ ss q).kd,(FZ ss q).ss.map (MF name),(FZ ss q).wild,(FZ ss q).tgt⟩:=by
 rw [FZ,FZ,List.length_map]
 by_cases hq:q=255∧0<ss.length
 ·rw [if_pos hq,if_pos hq]
 rw [if_neg hq,if_neg hq,List.find?_map,List.find?_map];have e1:((fun s:Sz=>decide (s.ty=q))∘MF name)=fun s=>decide (s.ty=q):=rfl
 have e2:((fun s:Sz=>decide (s.ty=5))∘MF name)=fun s=>decide (s.ty=5):=rfl
 rw [e1,e2]
 cases ss.find? fun s=>decide (s.ty=q) with
 |some s=>rfl
 |none=>cases ss.find? fun s=>decide (s.ty=5)<;>rfl
def ndF(lab:List ByteArray)(q:dG):List Sz:=if Nm.aN q.lab lab=0 then q.ss.map fun s=>mO (q,s) else []
theorem Va{name:ByteArray}(hn:Nm.split name=some lab):∀ (os:List dG),(∀ q∈os,Nm.split q.nm=some q.lab)->oH (eH os) name=os.flatMap (ndF lab)
 |[],_=>rfl
 |q::os,h=>by
  have ih:=Va hn os (fun r hr=>h r (List.mem_cons_of_mem _ hr))
  have e1:eH (q::os)=(q.ss.map fun s=>mO (q,s))++eH os:=by
   simp [eH,NM,List.flatMap_cons,List.map_append,List.map_map,Function.comp_def]
  have e2:oH (eH (q::os)) name=oH (q.ss.map fun s=>mO (q,s)) name++oH (eH os) name:=by
   rw [e1,oH,oH,oH,List.filter_append]
  rw [e2,ih,List.flatMap_cons];congr 1;have hs:eQ q.nm name=decide (Nm.aN q.lab lab=0):=nC (h q List.mem_cons_self) hn;rw [oH,ndF]
  by_cases hc:Nm.aN q.lab lab=0
  ·rw [if_pos hc,List.filter_eq_self.2 (fun z hz=>by obtain⟨s,-,rfl⟩:=kJ hz;show eQ q.nm name=true;rw [hs];simpa using hc)]
  rw [if_neg hc,List.filter_eq_nil_iff.2 (fun z hz=>by obtain⟨s,-,rfl⟩:=kJ hz;show ¬eQ q.nm name=true;rw [hs];simpa using hc)]
theorem aGf(h:∀ q∈os,Nm.aN q.lab lab≠0):os.flatMap (ndF lab)=[]:=by
 rw [List.flatMap_eq_nil_iff];intro q hq;rw [ndF,if_neg (h q hq)]
theorem U4:∀ {os:List dG},Jz os->∀ q∈os,Nm.aN q.lab lab=0->os.flatMap (ndF lab)=q.ss.map fun s=>mO (q,s)
 |[],_,_,hq,_=>by cases hq
 |r::os,h,q,hq,h0=>by
  obtain⟨h1,h2⟩:=List.pairwise_cons.1 h;rw [List.flatMap_cons]
  rcases List.mem_cons.1 hq with rfl|hq
  ·rw [aGf (lab:=lab) (fun x hx e=>by have:=h1 x hx;rw [dB h0] at this;have h9:=iC e;omega),ndF,if_pos h0,List.append_nil]
  have:=h1 q hq;rw [U4 h2 q hq h0,ndF,if_neg (fun e=>by rw [dB e] at this;have h9:=iC h0;omega)];rfl
theorem TZ.at{name:ByteArray}(h:TZ os o al)(hn:Nm.split name=some lab)(q:Int):H6 os lab q=FZ (oH (eH os) name) q:=by
 rw [Va hn os h.nm,H6]
 rcases JK h.iT.1 lab with⟨hi,c,hc,hp,h0⟩|⟨hi,gI⟩
 ·rw [U4 h.iT.1 c hc h0,hi,hp,if_pos rfl];exact at_eq (h.iT.2 c hc) (h.full c hc)
 rw [aGf gI,hi,if_neg (by decide),at_nil]
theorem TZ.fnd{name:ByteArray}(h:TZ os o al)(hn:Nm.split name=some lab){t:Int}{c:dG}{s:nY}(hc:c∈os)(hs:s∈c.ss)(h1:Nm.aN c.lab lab=0)(h2:s.ty=t):lS (eH os) name t=some (mO (c,s)):=by
 rw [lS,eH,List.find?_map]
 have e:(NM os).find? ((fun s=>decide (s.ty=t)&&eQ s.own name)∘mO)=some (c,s):=by
  obtain⟨i,g,hF⟩:=iJ.ex (P:=fun g:dG×nY=>g.2.ty=t∧Nm.aN g.1.lab lab=0) (l:=NM os) ⟨(c,s),fT.2 ⟨hc,hs⟩,h2,h1⟩;have hg:=fT.1 hF.mem;have e1:g.1=c:=h.one g.1 hg.1 c hc (by rw [bQ (iC h1)|>.symm];exact hF.2.1.2);have e2:g.2=s:=(h.iT.2 c hc).one (by rw [<- e1];exact hg.2) hs (by rw [hF.2.1.1,h2]);have e3:g=(c,s):=by rw [<- e1,<- e2]
  rw [<- e3];refine hF.find _ fun y hy=>?_
  show(decide ((mO y).ty=t)&&eQ (mO y).own name)=true↔_
  rw [G8 hn h.nm y hy];simp
 rw [e];rfl
abbrev JQ:ByteArray:=⟨#[42]⟩
theorem H7(y:List ByteArray):mJ (JQ::y)=xB (mJ y):=by
 apply ByteArray.ext;apply Array.ext';simp [mJ,xB,Nm.joinL,Nm.uE,ByteArray.size]
def lkT(os:List dG)(al lab:List ByteArray)(name:ByteArray)(q:Int):Stp:=
 if aQ lab al=true then
  match vR os lab (lab.length-al.length) with
  |some c=>⟨2,tZ c 2,false,⟨#[]⟩⟩
  |none=>if(iG os lab).length=lab.length then H6 os lab q else
   match lS (eH os) (mJ (iG os lab)) 39 with
   |some s=>AP s (lT (lab.take (lab.length-(iG os lab).length)++(Nm.split (MU s.da)).getD []))
   |none=>if VO (JQ::iG os lab) os=true then Ct name (H6 os (JQ::iG os lab) q) else NZ 8
 else NZ 1
theorem TZ.H8(h:TZ os o al):∀ (y:List ByteArray),aQ y al=true->∃ k,k+al.length<=y.length∧iG os y=y.drop k
 |[],hu=>⟨0,by have:=(dJ.1 hu).1;simpa using this,rfl⟩
 |x::xs,hu=>by
  obtain⟨u1,u2⟩:=dJ.1 hu;rw [iG];split
  ·exact⟨0,by omega,rfl⟩
  rename_i hq
  rcases Nat.lt_or_ge al.length (x::xs).length with h1|h1
  ·obtain⟨k,hk,e⟩:=h.H8 xs (NU hu (k:=1) (by omega));exact⟨k+1,by simp at*;omega,by rw [e];rfl⟩
  rw [show(x::xs).length-al.length=0 by omega,List.drop_zero] at u2;exact absurd (h.aLs u2) hq
theorem Mg(h:Gl lab)(hk:0<k)(hl:k<=lab.length):Gl (JQ::lab.drop k):=by
 refine⟨fun x hx=>?_,?_⟩
 ·rcases List.mem_cons.1 hx with rfl|hx
  ·exact⟨by decide,by decide⟩
  exact h.1 x (List.mem_of_mem_drop hx)
 obtain⟨j,rfl⟩:∃ j,k=j+1:=⟨k-1,by omega⟩;have h1:=(h.drop j).2;have e:lab.drop j=lab[j]::lab.drop (j+1):=List.drop_eq_getElem_cons (by omega);have h2:=(h.1 lab[j] (List.getElem_mem _)).1;rw [e] at h1;simp only [Nm.cK] at h1 ⊢;have h3:JQ.size=1:=rfl;omega
theorem TZ.look{name:ByteArray}(h:TZ os o al)(uO:ps.map (·.1)=eH os)(hn:Nm.split name=some lab)(hd:∀ c∈os,∀ s∈c.ss,s.ty=39->∃ zs,Nm.split (MU (mO (c,s)).da)=some zs)(q:Int):lkT os al lab name q=Nf ps o name q:=by
 have hg:=iP hn;obtain⟨N,hN⟩:∃ N,N=tX ps o name:=⟨_,rfl⟩;rw [lkT,Nf,<- hN,uO];rw [<- h.nd uO hn,ndT] at hN;cases hu:aQ lab al
 ·rw [hu,if_neg (by decide)] at hN;rw [if_neg (by decide),aGa (by rw [hN];rfl)]
 rw [hu,if_pos rfl] at hN;have k0:N.iK=mJ (iG os lab):=by rw [hN]
 have k1:N.cut=Uk (vR os lab (lab.length-al.length)):=by rw [hN]
 have k2:N.kd=kdT lab (iG os lab) (vR os lab (lab.length-al.length)) (gY (dX lab) os):=by rw [hN]
 clear hN;rw [if_pos rfl]
 rcases CS (lab:=lab) h.iT (lab.length-al.length) with⟨c1,c2⟩|⟨m,c,c1,c2,c3,c4,⟨s,hs,oU⟩,c6⟩
 ·rw [c1] at k2 ⊢
  show(if(iG os lab).length=lab.length then _ else _)=_
  cases hi:gY (dX lab) os with
  |true=>
   have k3:N.kd=3:=by rw [k2,hi];rfl
   have hl:(iG os lab).length=lab.length:=by
    rcases JK h.iT.1 lab with⟨-,c,hc,hp,h0⟩|⟨ML,-⟩
    ·rw [Ui ((Lt h.iT.1 lab).2 ⟨c,hc,pE h0⟩)]
    rw [hi] at ML;cases ML
   rw [if_pos hl,U3 (.inl k3),h.at hn q]
  |false=>
   have k3:N.kd=if(iG os lab).length=lab.length then 2 else 1:=by rw [k2,hi];rfl
   by_cases hl:(iG os lab).length=lab.length
   ·rw [if_pos hl] at k3;rw [if_pos hl,U3 (.inr k3),h.at hn q]
   rw [if_neg hl] at k3;rw [if_neg hl];obtain⟨k,hk,ek⟩:=h.H8 lab hu
   have Ke:0<k:=by
    rcases Nat.eq_zero_or_pos k with rfl|h0
    ·rw [ek,List.drop_zero] at hl;exact absurd rfl hl
    exact h0
   have hgc:Gl (iG os lab):=by rw [ek];exact hg.drop k
   have hjc:=hgc.jo
   have huc:aQ lab (iG os lab)=true:=by
    rw [ek];refine dJ.2 ⟨by rw [List.length_drop];omega,?_⟩;rw [List.length_drop,show lab.length-(lab.length-k)=k by omega];exact fA _
   have Wi:Gl (JQ::iG os lab):=by rw [ek];exact Mg hg Ke (by omega)
   have Cj:aQ (JQ::iG os lab) al=true:=by
    obtain⟨u1,u2⟩:=dJ.1 hu;refine dJ.2 ⟨by rw [ek];simp;omega,?_⟩
    have e1:(JQ::iG os lab).drop ((JQ::iG os lab).length-al.length)=lab.drop (lab.length-al.length):=by
     rw [ek];have e2:(JQ::lab.drop k).length-al.length=(lab.length-k-al.length)+1:=by simp;omega
     rw [e2,List.drop_succ_cons,List.drop_drop];congr 1;omega
    rw [e1];exact u2
   cases hf:lS (eH os) (mJ (iG os lab)) 39 with
   |some s=>
    have dM:lab.length≠(iG os lab).length:=fun e=>hl e.symm
    obtain⟨zs,hzq⟩:∃ zs,Nm.split (MU s.da)=some zs:=by
     rw [lS] at hf;have hm:=List.mem_of_find?_eq_some hf;have hp:=List.find?_some hf;obtain⟨g,mD,rfl⟩:=kJ hm;obtain⟨g2,g3⟩:=fT.1 mD;simp only [Bool.and_eq_true,decide_eq_true_eq] at hp;exact hd g.1 g2 g.2 g3 hp.1
    rw [aGc k3 (by rw [k0];exact hf),k0,He hn hjc hzq ⟨huc,dM⟩];show AP s _=_
    rw [hzq]
    rfl
   |none=>
    rw [aGd k3 (by rw [k0];exact hf),k0]
    show(if VO (JQ::iG os lab) os=true then _ else _)=_
    rw [h.th uO Wi Cj,H7,h.at (name:=xB (mJ (iG os lab))) (by rw [<- H7];exact Wi.jo) q]
 rw [c2] at k1 k2 ⊢
 have e1:tZ c 2=[mO (c,s)]:=by
  rw [Uz (h.iT.2 c c3) (by decide)]
  have e2:(c.ss.find? fun x=>decide (x.ty=2))=some s:=by
   cases hf:c.ss.find? fun x=>decide (x.ty=2) with
   |none=>
    have:=List.find?_eq_none.1 hf s hs
    simp [oU] at this
   |some x=>
    have hp:=List.find?_some hf;simp only [decide_eq_true_eq] at hp;rw [(h.iT.2 c c3).one (List.mem_of_find?_eq_some hf) hs (by rw [hp,oU])]
  rw [e2];rfl
 have e3:lS (eH os) (Uk (some c)) 2=some (mO (c,s)):=h.fnd (h.nm c c3) c3 hs (fA _) oU
 have k3:N.kd=4∨N.kd=5:=by
  rw [k2]
  show(if c.lab.length=lab.length then(4:Int) else 5)=4∨(if c.lab.length=lab.length then(4:Int) else 5)=5
  split
  ·exact .inl rfl
  exact .inr rfl
 rw [aGb k3,k1,e3]
 show(⟨2,tZ c 2,false,⟨#[]⟩⟩:Stp)=_
 rw [e1];rfl
theorem Cv{α:Type}{P:α->Bool}:∀ {l:List α} {j:Nat} {s:α},l[j]? =some s->(∀ i x,i<j->l[i]? =some x->P x=false)->P s=true->l.find? P=some s
 |[],j,s,h,_,_=>by simp at h
 |x::l,0,s,h,_,hp=>by
  simp only [List.getElem?_cons_zero,mV] at h;subst h
  rw [List.find?_cons_of_pos hp]
 |x::l,j+1,s,h,gI,hp=>by
  rw [List.find?_cons_of_neg (by rw [gI 0 x (by omega) rfl];decide)];exact Cv (by simpa using h) (fun i y hi hy=>gI (i+1) y (by omega) (by simpa using hy)) hp
theorem UC{α:Type}{P:α->Bool}{l:List α}(gI:∀ (i:Nat) (x:α),l[i]? =some x->P x=false):l.find? P=none:=by
 rw [List.find?_eq_none];intro x hx;obtain⟨i,hi⟩:=List.getElem?_of_mem hx;rw [gI i x hi];decide
section
variable {ps:List Zp}{q:Int}{j:Nat}{p:Zp}
theorem aL9(h:q=255∧0<ps.length):FZ (ps.map (·.1)) q=⟨3,ps.map (·.1),false,⟨#[]⟩⟩:=by rw [FZ,if_pos (by simpa using h)]
theorem U5(hq:¬(q=255∧0<ps.length))(hp:ps[j]? =some p)(gI:∀ i x,i<j->ps[i]? =some x->x.1.ty≠q)(h:p.1.ty=q):FZ (ps.map (·.1)) q=⟨3,[p.1],false,⟨#[]⟩⟩:=by
 have e:(ps.map (·.1)).find? (fun s=>decide (s.ty=q))=some p.1:=Cv (j:=j) (by rw [List.getElem?_map,hp];rfl) (fun i x hi hx=>by
  rw [List.getElem?_map,Option.map_eq_some_iff] at hx;obtain⟨y,hy,rfl⟩:=hx
  simpa using gI i y hi hy) (by simpa using h)
 rw [FZ,if_neg (by simpa using hq),e]
theorem U6(hq:¬(q=255∧0<ps.length))(Xw:∀ (i:Nat) (x:Zp),ps[i]? =some x->x.1.ty≠q)(hp:ps[j]? =some p)(gI:∀ i x,i<j->ps[i]? =some x->x.1.ty≠5)(h:p.1.ty=5):FZ (ps.map (·.1)) q=⟨4,[p.1],false,MU p.1.da⟩:=by
 have e1:(ps.map (·.1)).find? (fun s=>decide (s.ty=q))=none:=UC (fun i x hx=>by
  rw [List.getElem?_map,Option.map_eq_some_iff] at hx;obtain⟨y,hy,rfl⟩:=hx
  simpa using Xw i y hy)
 have e2:(ps.map (·.1)).find? (fun s=>decide (s.ty=5))=some p.1:=Cv (j:=j) (by rw [List.getElem?_map,hp];rfl) (fun i x hi hx=>by
  rw [List.getElem?_map,Option.map_eq_some_iff] at hx;obtain⟨y,hy,rfl⟩:=hx
  simpa using gI i y hi hy) (by simpa using h)
 rw [FZ,if_neg (by simpa using hq),e1,e2]
theorem U7(hq:¬(q=255∧0<ps.length))(Xw:∀ (i:Nat) (x:Zp),ps[i]? =some x->x.1.ty≠q)(gI:∀ (i:Nat) (x:Zp),ps[i]? =some x->x.1.ty≠5):FZ (ps.map (·.1)) q=NZ 5:=by
 have e1:(ps.map (·.1)).find? (fun s=>decide (s.ty=q))=none:=UC (fun i x hx=>by
  rw [List.getElem?_map,Option.map_eq_some_iff] at hx;obtain⟨y,hy,rfl⟩:=hx
  simpa using Xw i y hy)
 have e2:(ps.map (·.1)).find? (fun s=>decide (s.ty=5))=none:=UC (fun i x hx=>by
  rw [List.getElem?_map,Option.map_eq_some_iff] at hx;obtain⟨y,hy,rfl⟩:=hx
  simpa using gI i y hy)
 rw [FZ,if_neg (by simpa using hq),e1,e2]
theorem QU{b off cap:Nat}(h:gG w (.slice (some ⟨b,off,none⟩) ps.length cap) ps)(hp:ps[j]? =some p):gG w (.slice (some ⟨b,off+j*4,none⟩) 1 (cap-j)) [p]:=by
 have hj:=(dL hp).1;obtain⟨⟨_,a,c,e,h1,h2,h3⟩,hd⟩:=h;simp only [gK] at e;obtain⟨rfl,-,rfl⟩:=e;obtain⟨b',off',e2,hc⟩:=h3 (by omega);simp only [mV,Addr.mk.injEq] at e2;obtain⟨rfl,rfl,-⟩:=e2;refine⟨⟨rfl,_,_,rfl,by simp;omega,by omega,fun _=>⟨b,off+j*4,rfl,fun i x hx=>?_⟩⟩,fun q hq=>?_⟩
 ·have hl:i<4:=by have:=(dL hx).1;simpa [lG,YR] using this
  have e3:(lG ps)[j*4+i]? =some x:=by
   rw [lH ps j i p hp hl];simpa [lG] using hx
  have:=hc (j*4+i) x e3
  rwa [<- Nat.add_assoc] at this
 simp only [List.mem_singleton] at hq;subst hq;exact hd q (dA hp)
end
def SrP(v:Value)(ps:List Zp)(s:Stp)(w:World)(e:Ending)(w':World):Prop:=∃ u qs,e=.returned (.agg #[.int .i64 s.kd,u,.bool s.wild,.string s.tgt])∧List.map (·.1) qs=s.ss∧(∀ X,gG X v ps->gG X u qs)∧Below w.heap.size w w'
abbrev uZ(k:Int)(v:Value)(b:Bool)(t:ByteArray):List Value:=[.int .i64 k,v,.bool b,.string t]
abbrev H9:Array Value:=#[.int .i64 0,.slice none 0 0,.bool false,.string ⟨#[]⟩]
theorem fI{g:Nat}(hg:B<=g):∀ (vs:List Value) (i:Nat) (W:World),Below B w W->Below B w (bG W g i vs)
 |[],_,_,h=>h
 |y::vs,i,W,h=>fI hg vs (i+1) _ (h.setCell hg _)
theorem Ig(v:Value)(ps:List Zp)(q:Int)(w:World)(h:gG w v ps)(hl:ps.length<=1048576)(dM:∀ p∈ps,p.1.ty=5->0<p.1.da.length):
 Calls Tryz.prog 46 #[v,.int .i64 q] w (SrP v ps (FZ (ps.map (·.1)) q) w):=by
 obtain⟨va,vc,rfl⟩:=mX h;have gT:ps.length<=vc:=by obtain⟨⟨_,a,c,e,h1,_⟩,_⟩:=h;simp only [gK] at e;omega
 have oN:vc<=maxLen:=by obtain⟨⟨_,a,c,e,_,h2,_⟩,_⟩:=h;simp only [gK] at e;omega
 have b0:=(aJ w.heap.size w).alloc (aI _) (.cells H9 29);have k0:=aK w H9 29;obtain⟨S,HS⟩:∃ S,Hid (S=FZ (ps.map (·.1)) q):=⟨_,rfl⟩;rw [<- HS.out];unfold maxLen at oN
 by_cases hq:q=255∧0<ps.length
 ·have HE:Hid (S=⟨3,ps.map (·.1),false,⟨#[]⟩⟩):=by show _=_;rw [HS.out,aL9 hq]
  obtain⟨uB,zT⟩:=hq;subst uB;have i1:(0:Int)<(ps.length:Int):=by omega
  have kM:=aK w (uZ 3 (.slice va ps.length vc) false ⟨#[]⟩).toArray 29;have bM:=(aJ w.heap.size w).alloc (aI _) (.cells (uZ 3 (.slice va ps.length vc) false ⟨#[]⟩).toArray 29);have rM:=aA kM
  have rk:=aA k0
  have fk:=aF k0
  have HX:=Nm.aD bM;clear h dM HS k0 b0 kM bM;go_enter Tryz.func46,Tryz.ntmps46;go_wp2;refine eB (v:=.agg #[.int .i64 3,.slice va ps.length vc,.bool false,.string ⟨#[]⟩]) ?_ rfl ⟨.slice va ps.length vc,ps,by rw [HE.out],by rw [HE.out],fun _ h=>h,HX.out⟩;simp [results,Tryz.f46,go_sem,rM]
 have i1:(q==255)=true->¬(0:Int)<(ps.length:Int):=fun e h0=>hq ⟨by simpa using e,by omega⟩
 have HZ:=Nm.aD (fun W (hW:Below w.heap.size w W)=>h.below hW);have HN:=Nm.aD dM;have HQ:=Nm.aD hq;clear h dM hq
 cases LM:(q==255) with
 |true=>
  have i2:=i1 LM;clear i1;go_enter Tryz.func46,Tryz.ntmps46;go_wp2_with fail
  generalize AQ:w.heap.size=g at*;have WT:=Nm.aD AQ;clear AQ
  go_loopw [5] (fun i wr=>∃ (j:Nat),j<=ps.length∧i=.int .i64 j∧Below g w wr∧bW wr g H9 29∧Hid (∀ i x,i<j->ps[i]? =some x->x.1.ty≠q)) (fun i _=>ps.length-(intOf i).toNat)
  ·exact⟨0,dR _,rfl,b0,k0,fun i x hi=>by omega⟩
  clear b0 k0;obtain⟨j,hj,rfl,bj,kj,EW⟩:=hrel
  by_cases bY:j<ps.length
  ·first
   |(exfalso;omega)
   |obtain⟨p,hp⟩:=gQ bY
    obtain⟨⟨_,a9,c9,e9,_,_,CR⟩,NV⟩:=HZ.out _ bj;simp only [gK] at e9;obtain⟨rfl,_,rfl⟩:=e9;obtain⟨b,off,rfl,aH⟩:=CR (by omega);obtain⟨d0,d1,d2,d3⟩:=iE aH hp;have n1:=fE j
    have n2:(j:Int)<(ps.length:Int):=by omega
    by_cases tT:p.1.ty=q
    ·have t1:(p.1.ty==q)=true:=by simpa using tT
     have n3:¬vc=j:=by omega
     have n4:(j:Int)+1<=(vc:Int):=by omega
     have n5:(j:Int)<=(j:Int)+1:=by omega
     have HE:Hid (S=⟨3,[p.1],false,⟨#[]⟩⟩):=by(show _=_;rw [HS.out,U5 HQ.out hp EW.out tT])
     have zs:=fun X (hX:gG X (.slice (some ⟨b,off,none⟩) ps.length vc) ps)=>QU hX hp
     have kX:=dH (uZ 3 (.slice (some ⟨b,off+j*4,none⟩) 1 (vc-j)) false ⟨#[]⟩) kj rfl;have HX:Hid (List.map (·.1) [p]=[p.1]∧(∀ X,gG X (.slice (some ⟨b,off,none⟩) ps.length vc) ps->gG X (.slice (some ⟨b,off+j*4,none⟩) 1 (vc-j)) [p])∧Below g w (bG wr g 0 (uZ 3 (.slice (some ⟨b,off+j*4,none⟩) 1 (vc-j)) false ⟨#[]⟩))):=⟨rfl,zs,fI (aI g) _ 0 _ bj⟩;have rk:=aA kj
     have fk:=aF kj
     clear CR NV aH hp d0 d2 d3 zs EW HQ tT kj HZ HN;simp only [bG,Nat.reduceAdd,Nat.zero_add] at kX HX;have rX:=aA kX
     clear kX;go_wp2_with fail
     refine eB (v:=.agg #[.int .i64 3,(.slice (some ⟨b,off+j*4,none⟩) 1 (vc-j)),.bool false,.string ⟨#[]⟩]) ?_ rfl ⟨(.slice (some ⟨b,off+j*4,none⟩) 1 (vc-j)),_,by rw [HE.out],by rw [HE.out];exact HX.out.1,HX.out.2.1,by rw [WT.out];exact HX.out.2.2⟩;simp [results,Tryz.f46,go_sem,rX]
    have t1:(p.1.ty==q)=false:=by simpa using tT
    have H_:Hid (∀ i x,i<j+1->ps[i]? =some x->x.1.ty≠q):=fun i x hi hx=>by
     (rcases Nat.lt_succ_iff_lt_or_eq.1 hi with h1|rfl
      ·exact EW.out i x h1 hx
      rw [hp] at hx;cases hx;exact tT)
    clear CR NV aH hp d0 d2 d3 EW tT;go_wp2;go_roundw
    ·exact⟨j+1,by omega,by go_num,bj,kj,H_⟩
    simp [intOf];omega
  obtain rfl:j=ps.length:=by omega
  have i9:(ps.length:Int)<=(ps.length:Int):=by omega
  have HN1:Hid (∀ (i:Nat) (x:Zp),ps[i]? =some x->x.1.ty≠q):=fun i x hx=>EW.out i x (dL hx).1 hx
  clear EW bY hj;obtain⟨wo,hwo⟩:∃ wo,wo=wr:=⟨wr,rfl⟩;subst hwo;go_wp2_with fail
  go_loopw [6] (fun i wr=>∃ (j:Nat),j<=ps.length∧i=.int .i64 j∧Below g w wr∧bW wr g H9 29∧Hid (∀ i x,i<j->ps[i]? =some x->x.1.ty≠5)) (fun i _=>ps.length-(intOf i).toNat)
  ·exact⟨0,dR _,rfl,bj,kj,fun i x hi=>by omega⟩
  clear bj kj;obtain⟨j,hj,rfl,bj,kj,EW⟩:=hrel
  by_cases bY:j<ps.length
  ·first
   |(exfalso;omega)
   |obtain⟨p,hp⟩:=gQ bY
    obtain⟨⟨_,a9,c9,e9,_,_,CR⟩,NV⟩:=HZ.out _ bj;simp only [gK] at e9;obtain⟨rfl,_,rfl⟩:=e9;obtain⟨b,off,rfl,aH⟩:=CR (by omega);obtain⟨d0,d1,d2,d3⟩:=iE aH hp;have n1:=fE j
    have n2:(j:Int)<(ps.length:Int):=by omega
    by_cases tT:p.1.ty=5
    ·have t1:(p.1.ty==5)=true:=by simpa using tT
     have n3:¬vc=j:=by omega
     have n4:(j:Int)+1<=(vc:Int):=by omega
     have n5:(j:Int)<=(j:Int)+1:=by omega
     have n6:IntKind.i64.wrap ((j:Int)+1)=(j:Int)+1:=Go.wrap_small _ (by omega) (by omega);have n7:(0:Int)<=(j:Int)+1:=by omega
     have HE:Hid (S=⟨4,[p.1],false,MU p.1.da⟩):=by(show _=_;rw [HS.out,U6 HQ.out HN1.out hp EW.out tT])
     have zs:=fun X (hX:gG X (.slice (some ⟨b,off,none⟩) ps.length vc) ps)=>QU hX hp
     have MN:=HN.out p (dA hp) tT
     obtain⟨x0,xr,hxr⟩:∃ x r,p.1.da=x::r:=by
      (cases hx:p.1.da with
       |nil=>rw [hx] at MN;simp at MN
       |cons x r=>exact⟨x,r,rfl⟩)
     obtain⟨da,dc,ed,nV,hdm,-,hdc⟩:=NV p (dA hp);obtain⟨db,Fv,rfl,JR⟩:=hdc (by rw [hxr];simp);have cD:=JR 0 x0 (by rw [hxr];rfl);rw [Nat.add_zero] at cD;rw [ed] at d3;have m1:(0:Int)<(p.1.da.length:Int):=by omega
     have Vb:MU p.1.da=x0:=by rw [hxr];rfl
     rw [Vb] at HE;have kX:=dH (uZ 4 (.slice (some ⟨b,off+j*4,none⟩) 1 (vc-j)) false x0) kj rfl;have HX:Hid (List.map (·.1) [p]=[p.1]∧(∀ X,gG X (.slice (some ⟨b,off,none⟩) ps.length vc) ps->gG X (.slice (some ⟨b,off+j*4,none⟩) 1 (vc-j)) [p])∧Below g w (bG wr g 0 (uZ 4 (.slice (some ⟨b,off+j*4,none⟩) 1 (vc-j)) false x0))):=⟨rfl,zs,fI (aI g) _ 0 _ bj⟩;have rk:=aA kj
     have fk:=aF kj
     clear CR NV aH hp d0 d2 zs EW HQ tT kj HZ HN HN1 hdc JR hxr Vb ed;simp only [bG,Nat.reduceAdd,Nat.zero_add] at kX HX;have rX:=aA kX
     clear kX;go_upto_region 12 with fail
     refine kR (fun X=>X.cell? ⟨b,off+j*4+3,none⟩=some (.slice (some ⟨db,Fv,none⟩) p.1.da.length dc)∧X.cell? ⟨db,Fv,none⟩=some (.string x0)) 13 ⟨d3,cD⟩ fun aY=>?_;refine kB 0 rfl ?_;refine kB 1 rfl ?_;refine kB 2 rfl ?_;refine kB 3 rfl ?_;refine kB 4 rfl ?_;refine kB 5 rfl ?_;refine kB 6 rfl ?_;refine kB 7 rfl ?_;refine kB 8 rfl ?_;refine kB 9 rfl ?_;refine kB 10 rfl ?_;refine kB 11 rfl ?_;refine kB 12 rfl ?_;refine iB (by kernel_rfl) rfl (by kernel_rfl) fun K hK=>?_;go_simp;refine hK.out _ _ ?_;clear hK K;go_wp2_with fail
     refine eB (v:=.agg #[.int .i64 4,(.slice (some ⟨b,off+j*4,none⟩) 1 (vc-j)),.bool false,.string x0]) ?_ rfl ⟨(.slice (some ⟨b,off+j*4,none⟩) 1 (vc-j)),_,by rw [HE.out],by rw [HE.out];exact HX.out.1,HX.out.2.1,by rw [WT.out];exact HX.out.2.2.drew⟩;simp [results,Tryz.f46,go_sem,rX]
    have t1:(p.1.ty==5)=false:=by simpa using tT
    have H_:Hid (∀ i x,i<j+1->ps[i]? =some x->x.1.ty≠5):=fun i x hi hx=>by
     (rcases Nat.lt_succ_iff_lt_or_eq.1 hi with h1|rfl
      ·exact EW.out i x h1 hx
      rw [hp] at hx;cases hx;exact tT)
    clear CR NV aH hp d0 d2 d3 EW tT;go_wp2;go_roundw
    ·exact⟨j+1,by omega,by go_num,bj,kj,H_⟩
    simp [intOf];omega
  obtain rfl:j=ps.length:=by omega
  have HE:Hid (S=NZ 5):=by(show _=_;rw [HS.out,U7 HQ.out HN1.out (fun i x hx=>EW.out i x (dL hx).1 hx)])
  have kX:=dH (uZ 5 (.slice none 0 0) false ⟨#[]⟩) kj rfl;have HX:Hid (List.map (·.1) ([]:List Zp)=[]∧(∀ X,gG X (.slice va ps.length vc) ps->gG X (.slice none 0 0) [])∧Below g w (bG wr g 0 (uZ 5 (.slice none 0 0) false ⟨#[]⟩))):=⟨rfl,fun X _=>⟨⟨rfl,none,0,rfl,aI _,by decide,fun h=>absurd h (by simp)⟩,by simp⟩,fI (aI g) _ 0 _ bj⟩;have rk:=aA kj
  have fk:=aF kj
  clear EW HN1 HQ kj HZ HN;simp only [bG,Nat.reduceAdd,Nat.zero_add] at kX HX;have rX:=aA kX
  clear kX;go_wp2_with fail
  refine eB (v:=.agg #[.int .i64 5,(.slice none 0 0),.bool false,.string ⟨#[]⟩]) ?_ rfl ⟨(.slice none 0 0),_,by rw [HE.out],by rw [HE.out];exact HX.out.1,HX.out.2.1,by rw [WT.out];exact HX.out.2.2⟩
  simp [results,Tryz.f46,go_sem,rX]
 |false=>
  clear i1;go_enter Tryz.func46,Tryz.ntmps46;go_wp2_with fail
  generalize AQ:w.heap.size=g at*;have WT:=Nm.aD AQ;clear AQ
  go_loopw [5] (fun i wr=>∃ (j:Nat),j<=ps.length∧i=.int .i64 j∧Below g w wr∧bW wr g H9 29∧Hid (∀ i x,i<j->ps[i]? =some x->x.1.ty≠q)) (fun i _=>ps.length-(intOf i).toNat)
  ·exact⟨0,dR _,rfl,b0,k0,fun i x hi=>by omega⟩
  clear b0 k0;obtain⟨j,hj,rfl,bj,kj,EW⟩:=hrel
  by_cases bY:j<ps.length
  ·first
   |(exfalso;omega)
   |obtain⟨p,hp⟩:=gQ bY
    obtain⟨⟨_,a9,c9,e9,_,_,CR⟩,NV⟩:=HZ.out _ bj;simp only [gK] at e9;obtain⟨rfl,_,rfl⟩:=e9;obtain⟨b,off,rfl,aH⟩:=CR (by omega);obtain⟨d0,d1,d2,d3⟩:=iE aH hp;have n1:=fE j
    have n2:(j:Int)<(ps.length:Int):=by omega
    by_cases tT:p.1.ty=q
    ·have t1:(p.1.ty==q)=true:=by simpa using tT
     have n3:¬vc=j:=by omega
     have n4:(j:Int)+1<=(vc:Int):=by omega
     have n5:(j:Int)<=(j:Int)+1:=by omega
     have HE:Hid (S=⟨3,[p.1],false,⟨#[]⟩⟩):=by(show _=_;rw [HS.out,U5 HQ.out hp EW.out tT])
     have zs:=fun X (hX:gG X (.slice (some ⟨b,off,none⟩) ps.length vc) ps)=>QU hX hp
     have kX:=dH (uZ 3 (.slice (some ⟨b,off+j*4,none⟩) 1 (vc-j)) false ⟨#[]⟩) kj rfl;have HX:Hid (List.map (·.1) [p]=[p.1]∧(∀ X,gG X (.slice (some ⟨b,off,none⟩) ps.length vc) ps->gG X (.slice (some ⟨b,off+j*4,none⟩) 1 (vc-j)) [p])∧Below g w (bG wr g 0 (uZ 3 (.slice (some ⟨b,off+j*4,none⟩) 1 (vc-j)) false ⟨#[]⟩))):=⟨rfl,zs,fI (aI g) _ 0 _ bj⟩;have rk:=aA kj
     have fk:=aF kj
     clear CR NV aH hp d0 d2 d3 zs EW HQ tT kj HZ HN;simp only [bG,Nat.reduceAdd,Nat.zero_add] at kX HX;have rX:=aA kX
     clear kX;go_wp2_with fail
     refine eB (v:=.agg #[.int .i64 3,(.slice (some ⟨b,off+j*4,none⟩) 1 (vc-j)),.bool false,.string ⟨#[]⟩]) ?_ rfl ⟨(.slice (some ⟨b,off+j*4,none⟩) 1 (vc-j)),_,by rw [HE.out],by rw [HE.out];exact HX.out.1,HX.out.2.1,by rw [WT.out];exact HX.out.2.2⟩;simp [results,Tryz.f46,go_sem,rX]
    have t1:(p.1.ty==q)=false:=by simpa using tT
    have H_:Hid (∀ i x,i<j+1->ps[i]? =some x->x.1.ty≠q):=fun i x hi hx=>by
     (rcases Nat.lt_succ_iff_lt_or_eq.1 hi with h1|rfl
      ·exact EW.out i x h1 hx
      rw [hp] at hx;cases hx;exact tT)
    clear CR NV aH hp d0 d2 d3 EW tT;go_wp2;go_roundw
    ·exact⟨j+1,by omega,by go_num,bj,kj,H_⟩
    simp [intOf];omega
  obtain rfl:j=ps.length:=by omega
  have i9:(ps.length:Int)<=(ps.length:Int):=by omega
  have HN1:Hid (∀ (i:Nat) (x:Zp),ps[i]? =some x->x.1.ty≠q):=fun i x hx=>EW.out i x (dL hx).1 hx
  clear EW bY hj;obtain⟨wo,hwo⟩:∃ wo,wo=wr:=⟨wr,rfl⟩;subst hwo;go_wp2_with fail
  go_loopw [6] (fun i wr=>∃ (j:Nat),j<=ps.length∧i=.int .i64 j∧Below g w wr∧bW wr g H9 29∧Hid (∀ i x,i<j->ps[i]? =some x->x.1.ty≠5)) (fun i _=>ps.length-(intOf i).toNat)
  ·exact⟨0,dR _,rfl,bj,kj,fun i x hi=>by omega⟩
  clear bj kj;obtain⟨j,hj,rfl,bj,kj,EW⟩:=hrel
  by_cases bY:j<ps.length
  ·first
   |(exfalso;omega)
   |obtain⟨p,hp⟩:=gQ bY
    obtain⟨⟨_,a9,c9,e9,_,_,CR⟩,NV⟩:=HZ.out _ bj;simp only [gK] at e9;obtain⟨rfl,_,rfl⟩:=e9;obtain⟨b,off,rfl,aH⟩:=CR (by omega);obtain⟨d0,d1,d2,d3⟩:=iE aH hp;have n1:=fE j
    have n2:(j:Int)<(ps.length:Int):=by omega
    by_cases tT:p.1.ty=5
    ·have t1:(p.1.ty==5)=true:=by simpa using tT
     have n3:¬vc=j:=by omega
     have n4:(j:Int)+1<=(vc:Int):=by omega
     have n5:(j:Int)<=(j:Int)+1:=by omega
     have n6:IntKind.i64.wrap ((j:Int)+1)=(j:Int)+1:=Go.wrap_small _ (by omega) (by omega);have n7:(0:Int)<=(j:Int)+1:=by omega
     have HE:Hid (S=⟨4,[p.1],false,MU p.1.da⟩):=by(show _=_;rw [HS.out,U6 HQ.out HN1.out hp EW.out tT])
     have zs:=fun X (hX:gG X (.slice (some ⟨b,off,none⟩) ps.length vc) ps)=>QU hX hp
     have MN:=HN.out p (dA hp) tT
     obtain⟨x0,xr,hxr⟩:∃ x r,p.1.da=x::r:=by
      (cases hx:p.1.da with
       |nil=>rw [hx] at MN;simp at MN
       |cons x r=>exact⟨x,r,rfl⟩)
     obtain⟨da,dc,ed,nV,hdm,-,hdc⟩:=NV p (dA hp);obtain⟨db,Fv,rfl,JR⟩:=hdc (by rw [hxr];simp);have cD:=JR 0 x0 (by rw [hxr];rfl);rw [Nat.add_zero] at cD;rw [ed] at d3;have m1:(0:Int)<(p.1.da.length:Int):=by omega
     have Vb:MU p.1.da=x0:=by rw [hxr];rfl
     rw [Vb] at HE;have kX:=dH (uZ 4 (.slice (some ⟨b,off+j*4,none⟩) 1 (vc-j)) false x0) kj rfl;have HX:Hid (List.map (·.1) [p]=[p.1]∧(∀ X,gG X (.slice (some ⟨b,off,none⟩) ps.length vc) ps->gG X (.slice (some ⟨b,off+j*4,none⟩) 1 (vc-j)) [p])∧Below g w (bG wr g 0 (uZ 4 (.slice (some ⟨b,off+j*4,none⟩) 1 (vc-j)) false x0))):=⟨rfl,zs,fI (aI g) _ 0 _ bj⟩;have rk:=aA kj
     have fk:=aF kj
     clear CR NV aH hp d0 d2 zs EW HQ tT kj HZ HN HN1 hdc JR hxr Vb ed;simp only [bG,Nat.reduceAdd,Nat.zero_add] at kX HX;have rX:=aA kX
     clear kX;go_upto_region 12 with fail
     refine kR (fun X=>X.cell? ⟨b,off+j*4+3,none⟩=some (.slice (some ⟨db,Fv,none⟩) p.1.da.length dc)∧X.cell? ⟨db,Fv,none⟩=some (.string x0)) 13 ⟨d3,cD⟩ fun aY=>?_;refine kB 0 rfl ?_;refine kB 1 rfl ?_;refine kB 2 rfl ?_;refine kB 3 rfl ?_;refine kB 4 rfl ?_;refine kB 5 rfl ?_;refine kB 6 rfl ?_;refine kB 7 rfl ?_;refine kB 8 rfl ?_;refine kB 9 rfl ?_;refine kB 10 rfl ?_;refine kB 11 rfl ?_;refine kB 12 rfl ?_;refine iB (by kernel_rfl) rfl (by kernel_rfl) fun K hK=>?_;go_simp;refine hK.out _ _ ?_;clear hK K;go_wp2_with fail
     refine eB (v:=.agg #[.int .i64 4,(.slice (some ⟨b,off+j*4,none⟩) 1 (vc-j)),.bool false,.string x0]) ?_ rfl ⟨(.slice (some ⟨b,off+j*4,none⟩) 1 (vc-j)),_,by rw [HE.out],by rw [HE.out];exact HX.out.1,HX.out.2.1,by rw [WT.out];exact HX.out.2.2.drew⟩;simp [results,Tryz.f46,go_sem,rX]
    have t1:(p.1.ty==5)=false:=by simpa using tT
    have H_:Hid (∀ i x,i<j+1->ps[i]? =some x->x.1.ty≠5):=fun i x hi hx=>by
     (rcases Nat.lt_succ_iff_lt_or_eq.1 hi with h1|rfl
      ·exact EW.out i x h1 hx
      rw [hp] at hx;cases hx;exact tT)
    clear CR NV aH hp d0 d2 d3 EW tT;go_wp2;go_roundw
    ·exact⟨j+1,by omega,by go_num,bj,kj,H_⟩
    simp [intOf];omega
  obtain rfl:j=ps.length:=by omega
  have HE:Hid (S=NZ 5):=by(show _=_;rw [HS.out,U7 HQ.out HN1.out (fun i x hx=>EW.out i x (dL hx).1 hx)])
  have kX:=dH (uZ 5 (.slice none 0 0) false ⟨#[]⟩) kj rfl;have HX:Hid (List.map (·.1) ([]:List Zp)=[]∧(∀ X,gG X (.slice va ps.length vc) ps->gG X (.slice none 0 0) [])∧Below g w (bG wr g 0 (uZ 5 (.slice none 0 0) false ⟨#[]⟩))):=⟨rfl,fun X _=>⟨⟨rfl,none,0,rfl,aI _,by decide,fun h=>absurd h (by simp)⟩,by simp⟩,fI (aI g) _ 0 _ bj⟩;have rk:=aA kj
  have fk:=aF kj
  clear EW HN1 HQ kj HZ HN;simp only [bG,Nat.reduceAdd,Nat.zero_add] at kX HX;have rX:=aA kX
  clear kX;go_wp2_with fail
  refine eB (v:=.agg #[.int .i64 5,(.slice none 0 0),.bool false,.string ⟨#[]⟩]) ?_ rfl ⟨(.slice none 0 0),_,by rw [HE.out],by rw [HE.out];exact HX.out.1,HX.out.2.1,by rw [WT.out];exact HX.out.2.2⟩;simp [results,Tryz.f46,go_sem,rX]
def xC(name:ByteArray)(p:Zp):Zp:=(MF name p.1,p.2)
theorem YC{name:ByteArray}{p:Zp}(h:ps[k]? =some p):((ps.map (xC name)).take k++ps.drop k)[k]? =some p:=by
 have hl:=(dL h).1;rw [List.getElem?_append_right (by simp;omega),List.length_take,List.length_map,Nat.min_eq_left (by omega),Nat.sub_self,List.getElem?_drop,Nat.add_zero];exact h
theorem Vd{name:ByteArray}{p:Zp}(h:ps[k]? =some p):((ps.map (xC name)).take k++ps.drop k).set k (xC name p)=(ps.map (xC name)).take (k+1)++ps.drop (k+1):=by
 have hl:=(dL h).1;have hp:=(dL h).2;have e1:ps.drop k=p::ps.drop (k+1):=by rw [List.drop_eq_getElem_cons hl,hp]
 have e2:(ps.map (xC name)).take (k+1)=(ps.map (xC name)).take k++[xC name p]:=by
  rw [List.take_add_one,List.getElem?_map,h];rfl
 have e3:((ps.map (xC name)).take k).length=k:=by simp;omega
 rw [e1,e2,List.set_append,if_neg (by omega),e3,Nat.sub_self,List.set_cons_zero,List.append_assoc];rfl
theorem Cw{name:ByteArray}(h:k<=ps.length):((ps.map (xC name)).take k++ps.drop k).length=ps.length:=by simp;omega
theorem JS{s:Sz}(hu:W.ownsRow B 9 1 u s.da.length (s.da.map Value.string))(hB:B<=W.heap.size):dF (W.alloc (.cells #[.string s.own,.int .i64 s.ty,.int .i64 s.tt,u] 42)) B (.slice (some ⟨W.heap.size,0,none⟩) 1 1) [(s,u)]:=by
 refine⟨World.ownsRow_lit (base:=B) (e:=42) (size:=4) W #[.string s.own,.int .i64 s.ty,.int .i64 s.tt,u] 1 hB (by decide) rfl,fun i p hp=>?_,fun i j p q hp hq dM=>?_⟩
 ·cases i with
  |zero=>
   simp only [List.getElem?_cons_zero,mV] at hp;subst hp
   exact hu.alloc _
  |succ i=>simp at hp
 cases i with
 |zero=>cases j with
  |zero=>exact absurd rfl dM
  |succ j=>simp at hq
 |succ i=>simp at hp
def yS(W:World)(B:Nat)(v:Value)(ps:List Zp):Prop:=∀ X:World,(∀ k,B<=k->k<W.heap.size->X.heap[k]? =W.heap[k]?)->gG X v ps
section
variable {W W':World}{B B':Nat}{v:Value}{ps:List Zp}
theorem aGg{X:World}{e s n:Nat}{xs:List Value}(h:W.ownsRow B e s v n xs)(hk:∀ k,B<=k->k<W.heap.size->X.heap[k]? =W.heap[k]?):X.ownsRow B e s v n xs:=by
 refine⟨h.1,?_⟩
 rcases h.2 with h0|⟨g,cap,cur,rfl,fJ,hg,r⟩
 ·exact .inl h0
 exact .inr ⟨g,cap,cur,rfl,fJ,(hk g fJ (Array.getElem?_eq_some_iff.1 hg).1).trans hg,r⟩
theorem dF.fr(h:dF W B v ps):yS W B v ps:=fun X hX=>dF.AU (B:=B) ⟨aGg h.outer hX,fun i p hp=>aGg (h.inner i p hp) hX,h.apart⟩
theorem yS.read(h:yS W B v ps):gG W v ps:=h W (fun _ _ _=>rfl)
theorem yS.low(h:yS W B v ps)(hk:∀ k,B<=k->k<W.heap.size->W'.heap[k]? =W.heap[k]?)(hs:W.heap.size<=W'.heap.size):yS W' B v ps:=fun X hX=>h X (fun k h1 h2=>(hX k h1 (by omega)).trans (hk k h1 h2))
theorem yS.below(h:yS W B v ps)(hb:Below W.heap.size W W'):yS W' B v ps:=h.low (fun k _ h2=>hb.block k h2) hb.size
theorem yS.base(h:yS W B v ps)(hb:B'<=B):yS W B' v ps:=fun X hX=>h X (fun k h1 h2=>hX k (by omega) h2)
theorem yS.nil:yS W B (.slice none 0 0) []:=fun X _=>⟨⟨rfl,none,0,rfl,aI _,by decide,fun h=>absurd h (by simp)⟩,by simp⟩
end
def NdV(N:Nd)(w:World)(e:Ending)(w':World):Prop:=∃ u,e=.returned (.agg #[.int .i64 N.kd,.string N.iK,.string N.cut,u])∧w'.ownsRow w.heap.size 2 1 u N.ty.length (intCells N.ty)∧Below w.heap.size w w'
theorem yT{w2:World}{b n:Nat}{kd:Int}{x y:ByteArray}{v:Value}{xs:List Value}(k:bW w2 b #[.int .i64 0,.string ⟨#[]⟩,.string ⟨#[]⟩,.slice none 0 0] 38)(ho:w2.ownsRow B 2 1 v n xs)(dM:v.ownBlock≠some b)(hb:Below w.heap.size w w2)(EM:w.heap.size<=b):
 bW ((((w2.setCell ⟨b,0,none⟩ (.int .i64 kd)).setCell ⟨b,1,none⟩ (.string x)).setCell ⟨b,2,none⟩ (.string y)).setCell ⟨b,3,none⟩ v) b #[.int .i64 kd,.string x,.string y,v] 38∧
 ((((w2.setCell ⟨b,0,none⟩ (.int .i64 kd)).setCell ⟨b,1,none⟩ (.string x)).setCell ⟨b,2,none⟩ (.string y)).setCell ⟨b,3,none⟩ v).ownsRow B 2 1 v n xs∧
 Below w.heap.size w ((((w2.setCell ⟨b,0,none⟩ (.int .i64 kd)).setCell ⟨b,1,none⟩ (.string x)).setCell ⟨b,2,none⟩ (.string y)).setCell ⟨b,3,none⟩ v):=by
 have k4:=aM (aM (aM (aM k 0 (.int .i64 kd)) 1 (.string x)) 2 (.string y)) 3 v;simp only [List.setIfInBounds_toArray,List.set_cons_zero,List.set_cons_succ] at k4;have BQ:=dY (y:=v) (i:=3) (g:=b) (dY (y:=.string y) (i:=2) (g:=b) (dY (y:=.string x) (i:=1) (g:=b) (dY (y:=.int .i64 kd) (i:=0) (g:=b) ho dM) dM) dM) dM;exact⟨k4,BQ,(((hb.setCell (p:=⟨b,0,none⟩) EM (.int .i64 kd)).setCell (p:=⟨b,1,none⟩) EM (.string x)).setCell (p:=⟨b,2,none⟩) EM (.string y)).setCell (p:=⟨b,3,none⟩) EM v⟩
structure CY (w W:World) (zb p:Nat) (a b c u:Value) (l:List Int):Prop where
 z:bW W zb #[.int .i64 0,.string ⟨#[]⟩,.string ⟨#[]⟩,.slice none 0 0] 38
 k:bW W p #[a,b,c,u] 38
 le:w.heap.size<=zb
 lt:zb<p
 row:W.ownsRow w.heap.size 2 1 u l.length (intCells l)
 far:∀ g,u.ownBlock=some g->p<g
 be:Below w.heap.size w W
theorem CY.below{W':World}(h:CY w W zb p a b c u l)(hb:Below W.heap.size W W'):CY w W' zb p a b c u l:=
 ⟨aB h.z hb,aB h.k hb,h.le,h.lt,own_below h.row hb,h.far,Nm.aC h.be hb⟩
theorem CY.put{i:Nat}{a' b' c':Value}(h:CY w W zb p a b c u l)(e:(#[a,b,c,u]:Array Value).setIfInBounds i y=#[a',b',c',u]):CY w (W.setCell ⟨p,i,none⟩ y) zb p a' b' c' u l:=
 ⟨eU h.z (by have:=h.lt;omega),by rw [<- e];exact aM h.k i y,h.le,h.lt,dY h.row (fun e=>by have:=h.far _ e;omega),h.far,h.be.setCell (p:=⟨p,i,none⟩) (by have:=h.lt;have:=h.le;show w.heap.size<=p;omega) y⟩
theorem CY.set0(h:CY w W zb p a b c u l):CY w (W.setCell ⟨p,0,none⟩ y) zb p y b c u l:=h.put rfl
theorem CY.set1(h:CY w W zb p a b c u l):CY w (W.setCell ⟨p,1,none⟩ y) zb p a y c u l:=h.put rfl
theorem CY.set2(h:CY w W zb p a b c u l):CY w (W.setCell ⟨p,2,none⟩ y) zb p a b y u l:=h.put rfl
theorem CY.set3{W':World}{m:List Int}(h:CY w W zb p a b c u l)(hb:Below W.heap.size W W')(ho:W'.ownsRow W.heap.size 2 1 y m.length (intCells m)):CY w (W'.setCell ⟨p,3,none⟩ y) zb p a b c y m:=by
 have h':=h.below hb;have hp:=cO h.k;have hf:∀ g,y.ownBlock=some g->p<g:=fun g e=>by have:=(ho.lt g e).1;omega
 exact⟨eU h'.z (by have:=h.lt;omega),aM h'.k 3 y,h.le,h.lt,dY (fM ho h.be.size) (fun e=>by have:=hf _ e;omega),hf,h'.be.setCell (p:=⟨p,3,none⟩) (by have:=h.lt;have:=h.le;show w.heap.size<=p;omega) y⟩
theorem CY.start{w2 w3:World}(k:bW w2 zb #[.int .i64 0,.string ⟨#[]⟩,.string ⟨#[]⟩,.slice none 0 0] 38)(hz:w.heap.size<=zb)(hb:Below w.heap.size w w2)(h3:Below (w2.alloc (.cells #[.int .i64 0,.string ⟨#[]⟩,.string ⟨#[]⟩,.slice none 0 0] 38)).heap.size (w2.alloc (.cells #[.int .i64 0,.string ⟨#[]⟩,.string ⟨#[]⟩,.slice none 0 0] 38)) w3):
 CY w w3 zb w2.heap.size (.int .i64 0) (.string ⟨#[]⟩) (.string ⟨#[]⟩) (.slice none 0 0) []:=
 ⟨aB (bD k _) h3,aB (aK w2 #[.int .i64 0,.string ⟨#[]⟩,.string ⟨#[]⟩,.slice none 0 0] 38) h3,hz,cO k,World.ownsRow_nil _ _ _ _,by simp [Value.ownBlock],Nm.aC (hb.alloc hb.size _) h3⟩
theorem CY.done{kd:Int}{x y:ByteArray}(h:CY w W zb p (.int .i64 kd) (.string x) (.string y) u l):
 bW ((((W.setCell ⟨zb,0,none⟩ (.int .i64 kd)).setCell ⟨zb,1,none⟩ (.string x)).setCell ⟨zb,2,none⟩ (.string y)).setCell ⟨zb,3,none⟩ u) zb #[.int .i64 kd,.string x,.string y,u] 38∧
 NdV ⟨kd,x,y,l⟩ w (.returned (.agg #[.int .i64 kd,.string x,.string y,u])) ((((W.setCell ⟨zb,0,none⟩ (.int .i64 kd)).setCell ⟨zb,1,none⟩ (.string x)).setCell ⟨zb,2,none⟩ (.string y)).setCell ⟨zb,3,none⟩ u):=by
 obtain⟨h1,h2,h3⟩:=yT (kd:=kd) (x:=x) (y:=y) h.z h.row (fun e=>by have:=h.far _ e;have:=h.lt;omega) h.be h.le;exact⟨h1,_,rfl,h2,h3⟩
