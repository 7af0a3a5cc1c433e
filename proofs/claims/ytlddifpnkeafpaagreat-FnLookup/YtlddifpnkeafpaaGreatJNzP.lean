import Derived.Test.YtlddifpnkeafpaaGreatJFsT
import Derived.Test.YtlddifpnkeafpaaGreatJFnT
set_option linter.unusedVariables false
set_option maxRecDepth 100000
set_option maxHeartbeats 1600000
namespace Go.Proofs.YtlddifpnkeafpaaGreat
open Go.RowKit
theorem aGh{l iT:List It}:∀ (k:Nat),∀ s∈nS l iT k,s.da≠[]
 |0,s,hs=>by cases hs
 |k+1,s,hs=>by
  have ih:=aGh (l:=l) (iT:=iT) k;rw [nS] at hs
  cases hx:iT[k]? with
  |none=>rw [hx] at hs;exact ih s hs
  |some x=>
   rw [hx] at hs;simp only at hs
   split at hs
   ·rcases iU hs with h|h
    ·exact ih s h
    rw [List.mem_singleton.1 h];simp
   rw [XV] at hs
   cases hl:(nS l iT k).getLast? with
   |none=>rw [hl] at hs;cases hs
   |some s0=>
    rw [hl] at hs
    rcases iU hs with h|h
    ·exact ih s ((List.dropLast_sublist _).subset h)
    rw [List.mem_singleton.1 h];simp
variable {o:ByteArray}{ps:List Zp}{x:List ByteArray}
theorem QV(hz:AO ps o=true):gB o (aR ps) 0=none∧∃ al,Nm.split o=some al:=by
 have h0:=(qR hz).1
 cases ha:Nm.split o with
 |none=>rw [iX,if_pos (by rw [ha];rfl)] at h0;exact absurd h0 (by decide)
 |some al=>
  refine⟨?_,al,rfl⟩;rw [iX,if_neg (by rw [ha];simp)] at h0
  split at h0
  ·exact absurd h0 (by simp)
  cases hb:gB o (aR ps) 0 with
  |some c=>rw [hb] at h0;exact absurd h0 (QN _ _ c.1 c.2 hb)
  |none=>rfl
theorem QW{al:List ByteArray}(hz:AO ps o=true)(ha:Nm.split o=some al):∀ p∈ps,∃ lab,Nm.split p.1.own=some lab∧aQ lab al=true:=by
 intro p hp;have hm:p.1∈zI (aR ps):=by rw [(qR hz).2];exact List.mem_map_of_mem hp
 have hd:=aGh _ _ hm;obtain⟨d,ds,hd⟩:=List.exists_cons_of_ne_nil hd
 have hr:(⟨p.1.own,p.1.ty,1,p.1.tt,d⟩:Rr)∈aR ps:=by
  rw [aR,if_neg (fun hc=>by rw [Lr hc] at hz;cases hz)];exact List.mem_flatMap.2 ⟨p,hp,List.mem_map.2 ⟨d,by rw [hd];simp,rfl⟩⟩
 have h1:=Ce (CQ _ _ (QV hz).1 _ hr);simp only at h1
 cases hs:Nm.split p.1.own with
 |none=>rw [hs] at h1;cases h1.1
 |some lab=>
  refine⟨lab,rfl,?_⟩;rw [<- bZ hs ha];exact h1.2
def WU(x:ByteArray):List ByteArray:=(Nm.split x).getD []
def QX(ps:List Zp)(o:ByteArray):List Ne:=Fs (WU o) (ps.map fun p=>WU p.1.own)
def zNm(ps:List Zp)(o:ByteArray):List (List ByteArray):=(Lx (zJ (QX ps o).length (QX ps o))).1
def znR(ps:List Zp)(o:ByteArray):List (List ByteArray)×Int:=if AO ps o=true then(zNm ps o,0) else([],32)
def ZnP(r:List (List ByteArray)×Int)(w:World)(e:Ending)(w':World):Prop:=∃ u,e=.returned (.tuple #[u,.int .i64 r.2])∧w'.ownsRow w.heap.size 9 1 u r.1.length (r.1.map fun x=>Value.string (mJ x))∧Below w.heap.size w w'
theorem aGi{w w':World}(h:Below w.heap.size w w'):ZnP ([],32) w (.returned (.tuple #[.slice none 0 0,.int .i64 32])) w':=
 ⟨_,rfl,World.ownsRow_nil _ _ _ _,h⟩
theorem aGj{al:List ByteArray}{os:List dG}(h:TZ os o al)(uO:ps.map (·.1)=eH os):zNm ps o=(JM al os).1:=by
 have e:(ps.map fun p=>WU p.1.own)=(NM os).map (·.1.lab):=by
  have e1:(ps.map fun p=>WU p.1.own)=(ps.map (·.1)).map fun s=>WU s.own:=by rw [List.map_map];rfl
  rw [e1,uO,eH,List.map_map];refine List.map_congr_left fun g hg=>?_
  show(Nm.split g.1.nm).getD []=g.1.lab
  rw [h.nm g.1 (fT.1 hg).1];rfl
 have ea:QX ps o=Fs al ((NM os).map (·.1.lab)):=by rw [QX,e,WU,h.ap];rfl
 rw [zNm,ea,aF8 h _ (Nat.le_succ _)]
def Ih(l:List ByteArray)(name:ByteArray):Bool:=l.any fun x=>eQ x name
def UD(ps:List Zp)(o:ByteArray):List ByteArray:=(zNm ps o).map mJ
theorem aMa{S:List Ne}(h:DdI S){e:Ne}(he:e∈S):∃ x∈(Lx S).1,Nm.aN e.1 x=0:=by
 have hg:S.filter (FT e.1)≠[]:=by
  intro h0;have:e∈S.filter (FT e.1):=List.mem_filter.2 ⟨he,vE.2 (fA e.1)⟩;rw [h0] at this;cases this
 have hx:∃ e'∈S.filter (FT e.1),Ut (S.filter (FT e.1))=e'.1:=by
  rcases Mc hg with⟨e',h1,_,h2⟩|⟨e',h1,h2⟩
  ·exact⟨e',h1,h2⟩
  exact⟨e',List.mem_of_head? h1,h2⟩
 obtain⟨e',h1,h2⟩:=hx;have h3:=vE.1 (List.mem_filter.1 h1).2
 have h4:FT (Ut (S.filter (FT e.1)))=FT e.1:=by
  funext z
  rw [h2,FT,FT,bQ h3]
 have h5:Nm.aN e.1 (Ut (S.filter (FT e.1)))=0:=by
  rw [h2];have:=dU e'.1 e.1;omega
 exact⟨Ut (S.filter (FT e.1)),(h.mem _).2 ⟨⟨e,he,h5⟩,by rw [h4]⟩,h5⟩
section
variable {ps:List Zp}{o:ByteArray}{al:List ByteArray}
theorem aGk(ps:List Zp)(o:ByteArray):DdI (zJ (QX ps o).length (QX ps o)):=aF6 _ (Ma _ _ (by omega))
theorem aMb(h:x∈zNm ps o):∃ e∈QX ps o,x=e.1:=by
 obtain⟨⟨e,he,h1⟩,h2⟩:=((aGk ps o).mem x).1 h
 have hg:(zJ (QX ps o).length (QX ps o)).filter (FT x)≠[]:=by
  intro h0;have:e∈(zJ (QX ps o).length (QX ps o)).filter (FT x):=List.mem_filter.2 ⟨he,vE.2 h1⟩;rw [h0] at this;cases this
 rcases Mc hg with⟨e',h3,_,h4⟩|⟨e',h3,h4⟩
 ·exact⟨e',JP.1 (List.mem_filter.1 h3).1,h2.trans h4⟩
 exact⟨e',JP.1 (List.mem_filter.1 (List.mem_of_head? h3)).1,h2.trans h4⟩
theorem Ve(hz:AO ps o=true)(ha:Nm.split o=some al):(∃ e∈QX ps o,e.1=x)↔ ∃ p∈ps,∃ lab,Nm.split p.1.own=some lab∧aQ lab al=true∧∃ k,k<=lab.length-al.length∧x=lab.drop k:=by
 have XI:WU o=al:=by rw [WU,ha];rfl
 constructor
 ·rintro⟨e,he,rfl⟩
  rw [QX,Fs,List.mem_flatMap] at he;obtain⟨l,hl,he⟩:=he;obtain⟨p,hp,rfl⟩:=kJ hl;obtain⟨lab,h1,h2⟩:=QW hz ha p hp;have BA:WU p.1.own=lab:=by rw [WU,h1];rfl
  rw [BA,XI,aF5,List.mem_map] at he;obtain⟨k,hk,rfl⟩:=he;rw [List.mem_range] at hk;exact⟨p,hp,lab,h1,h2,k,by omega,rfl⟩
 rintro⟨p,hp,lab,h1,h2,k,hk,rfl⟩
 have BA:WU p.1.own=lab:=by rw [WU,h1];rfl
 refine⟨(lab.drop k,decide (k=0)),?_,rfl⟩;rw [QX,Fs,List.mem_flatMap];refine⟨lab,List.mem_map.2 ⟨p,hp,BA⟩,?_⟩;rw [XI,aF5,List.mem_map];exact⟨k,List.mem_range.2 (by omega),rfl⟩
theorem aGl(hz:AO ps o=true)(ha:Nm.split o=some al)(h:x∈zNm ps o):Gl x∧aQ x al=true∧∃ p∈ps,∃ lab,Nm.split p.1.own=some lab∧aQ lab x=true:=by
 obtain⟨e,he,rfl⟩:=aMb h;obtain⟨p,hp,lab,h1,h2,k,hk,h3⟩:=(Ve hz ha).1 ⟨e,he,rfl⟩;have h4:=(dJ.1 h2).1;rw [h3];refine⟨(iP h1).drop k,NU h2 (by omega),p,hp,lab,h1,dJ.2 ⟨by simp,?_⟩⟩;rw [List.length_drop,show lab.length-(lab.length-k)=k by omega];exact fA _
theorem aJk{l:List (List ByteArray)}(hl:∀ x∈l,Gl x){y:List ByteArray}(hy:Gl y):Ih (l.map mJ) (mJ y)=true↔ ∃ x∈l,Nm.aN x y=0:=by
 rw [Ih,List.any_map,List.any_eq_true];constructor
 ·rintro⟨x,hx,h⟩
  rw [Function.comp,nC (hl x hx).jo hy.jo] at h;exact⟨x,hx,of_decide_eq_true h⟩
 rintro⟨x,hx,h⟩
 refine⟨x,hx,?_⟩;rw [Function.comp,nC (hl x hx).jo hy.jo];exact oI h
theorem aGm(hz:AO ps o=true)(ha:Nm.split o=some al){y:List ByteArray}(hy:Gl y)(hu:aQ y al=true):Ih (UD ps o) (mJ y)=ps.any fun p=>cZ p.1.own (mJ y):=by
 have e:Ih (UD ps o) (mJ y)=true↔(ps.any fun p=>cZ p.1.own (mJ y))=true:=by
  rw [UD,aJk (fun x hx=>(aGl hz ha hx).1) hy,List.any_eq_true];constructor
  ·rintro⟨x,hx,h⟩
   obtain⟨_,_,p,hp,lab,h1,h2⟩:=aGl hz ha hx;refine⟨p,hp,?_⟩;rw [bZ h1 hy.jo];exact VL h2 (pE h)
  rintro⟨p,hp,h⟩
  obtain⟨lab,h1,h2⟩:=QW hz ha p hp;rw [bZ h1 hy.jo] at h;obtain⟨u1,u2⟩:=dJ.1 h;obtain⟨v1,v2⟩:=dJ.1 hu;obtain⟨e,he,h3⟩:=(Ve hz ha).2 ⟨p,hp,lab,h1,h2,lab.length-y.length,by omega,rfl⟩;obtain⟨x,hx,h4⟩:=aMa (aGk ps o) (JP.2 he);refine⟨x,hx,?_⟩;rw [h3] at h4;rw [<- dB h4];exact u2
 cases h1:Ih (UD ps o) (mJ y)<;>cases h2:(ps.any fun p=>cZ p.1.own (mJ y))<;>simp_all
theorem Mh(hz:AO ps o=true){name:ByteArray}(hn:(Nm.split name).isSome=true)(hu:cZ name o=true):Ih (UD ps o) name=wZ ps o name:=by
 obtain⟨al,ha⟩:=(QV hz).2;obtain⟨lab,hl⟩:=Option.isSome_iff_exists.1 hn;rw [bZ hl ha] at hu;have:=aGm hz ha (iP hl) hu;rw [vQ hl] at this;rw [this,wZ,bZ hl ha,hu,Bool.true_and]
theorem aMc(hz:AO ps o=true){x:ByteArray}(hx:x∈UD ps o):x.size<=255∧(WC x 1).1.size<=255:=by
 obtain⟨al,ha⟩:=(QV hz).2;rw [UD,List.mem_map] at hx;obtain⟨y,hy,rfl⟩:=hx;have g:=(aGl hz ha hy).1;refine⟨QQ g,?_⟩;rw [WC,g.jo];simp only
 split
 ·exact QQ (g.drop _)
 decide
theorem KY(th:ByteArray->Bool):∀ (y:List ByteArray),(∃ j,j<=y.length∧th (mJ (y.drop j))=true)->∃ k,k<=y.length∧xA th y=y.drop k∧th (mJ (y.drop k))=true∧(th (mJ y)=true->k=0)∧(th (mJ y)=false->0<k)
 |[],⟨j,hj,h⟩=>by
  have h0:th (mJ [])=true:=by simpa using h
  exact⟨0,aI _,rfl,h0,fun _=>rfl,fun h=>by rw [h0] at h;cases h⟩
 |x::xs,⟨j,hj,h⟩=>by
  cases h0:th (mJ (x::xs)) with
  |true=>exact⟨0,dR _,by rw [xA,if_pos h0];rfl,h0,fun _=>rfl,fun h=>by cases h⟩
  |false=>
   cases j with
   |zero=>rw [List.drop_zero,h0] at h;cases h
   |succ j=>
    obtain⟨k,h1,h2,h3,_,_⟩:=KY th xs ⟨j,by simpa using hj,by simpa using h⟩;exact⟨k+1,by simpa using h1,by rw [xA,if_neg (by rw [h0];simp),h2];rfl,by simpa using h3,fun h9=>Bool.noConfusion h9,fun _=>Nat.succ_pos _⟩
theorem U8(hz:AO ps o=true){name:ByteArray}(hn:(Nm.split name).isSome=true)(hu:cZ name o=true):
 Ih (UD ps o) (tX ps o name).iK=true∧cZ name (tX ps o name).iK=true∧eQ (tX ps o name).iK name=wZ ps o name∧(tX ps o name).iK.size<=255∧
 ((tX ps o name).cut≠⟨#[]⟩->(tX ps o name).kd=4∨(tX ps o name).kd=5)∧((tX ps o name).cut=⟨#[]⟩->(wZ ps o name=true->(tX ps o name).kd=3∨(tX ps o name).kd=2)∧(wZ ps o name=false->(tX ps o name).kd=1)):=by
 obtain⟨al,ha⟩:=(QV hz).2;obtain⟨lab,hl⟩:=Option.isSome_iff_exists.1 hn;have hu':=hu;rw [bZ hl ha] at hu;have gl:=iP hl;obtain⟨k,h1,h2,h3,h4,h5⟩:=KY (wZ ps o) lab (Lu hz ha hl hu);rw [vQ hl] at h4 h5;have e:(tX ps o name).iK=mJ (lab.drop k):=by rw [tX,if_pos hu',hl];simp only [Option.getD_some];rw [h2]
 have ek:(tX ps o name).kd=R8 name (mJ (lab.drop k)) (tX ps o name).cut (rO (ps.map (·.1)) name):=by rw [tX,if_pos hu',hl];simp only [Option.getD_some];rw [h2]
 have Xt:aQ lab (lab.drop k)=true:=dJ.2 ⟨by simp,by rw [List.length_drop,show lab.length-(lab.length-k)=k by omega];exact fA _⟩
 have tT:0<(rO (ps.map (·.1)) name).length->wZ ps o name=true:=by
  intro h;rw [rO,List.length_map] at h;obtain⟨s,hs⟩:=List.exists_mem_of_length_pos h;obtain⟨h6,h7⟩:=List.mem_filter.1 hs;obtain⟨p,hp,rfl⟩:=kJ h6;obtain⟨xs,hx,_⟩:=QW hz ha p hp;rw [nC hx hl] at h7;rw [wZ,hu',Bool.true_and,List.any_eq_true];exact⟨p,hp,by rw [bZ hx hl];exact pE (of_decide_eq_true h7)⟩
 have aIh:mJ (lab.drop k)=name↔wZ ps o name=true:=by
  constructor
  ·intro h;rw [<- h];exact h3
  intro h;rw [h4 h,List.drop_zero,vQ hl]
 rw [e];refine⟨?_,by rw [bZ hl (gl.drop k).jo];exact Xt,?_,QQ (gl.drop k),fun hc=>?_,fun hc=>⟨fun ht=>?_,fun ht=>?_⟩⟩
 ·have h6:=h3;rw [wZ,Bool.and_eq_true] at h6;rw [bZ (gl.drop k).jo ha] at h6;rw [aGm hz ha (gl.drop k) h6.1];exact h6.2
 ·rw [nC (gl.drop k).jo hl]
  cases ht:wZ ps o name with
  |true=>rw [h4 ht,List.drop_zero,fA];rfl
  |false=>
   rw [decide_eq_false_iff_not];intro h0;have h6:=nG h0;have h7:=h5 ht;rw [List.length_drop] at h6;omega
 ·rw [ek,Uo hc];split
  ·exact .inl rfl
  exact .inr rfl
 ·rw [ek,hc,Co,if_pos (aIh.2 ht)];split
  ·exact .inl rfl
  exact .inr rfl
 rw [ek,hc,Co,if_neg (fun h=>by rw [tT h] at ht;cases ht),if_neg (fun h=>by rw [aIh.1 h] at ht;cases ht)]
end
theorem aCl{a:ByteArray}(h:(Nm.split a).isSome=true):eQ a a=true:=by
 obtain⟨ls,hl⟩:=Option.isSome_iff_exists.1 h;rw [nC hl hl,fA];rfl
section
variable {ps:List Zp}{o:ByteArray}
theorem aGn(hz:AO ps o=true){i:Nat}{p:Zp}(hi:ps[i]? =some p)(hs:eQ p.1.own p.1.own=true):lS (ps.map (·.1)) p.1.own p.1.ty=some p.1:=by
 cases e:lS (ps.map (·.1)) p.1.own p.1.ty with
 |none=>
  rw [lS,List.find?_eq_none] at e;have:=e p.1 (List.mem_map_of_mem (dA hi))
  simp [hs] at this
 |some s=>
  have h1:=List.find?_some e;simp only [Bool.and_eq_true,decide_eq_true_eq] at h1;obtain⟨q,hq,rfl⟩:=kJ (List.mem_of_find?_eq_some e);obtain⟨j,hj⟩:=List.getElem?_of_mem hq;have:=aJh hz hj hi h1.1 h1.2;subst this;rw [hj] at hi;rw [jI hi]
end
theorem JU(s:ByteArray)(w:World)(hs:s.size<=maxLen):
 Calls Tryz.prog 78 #[.string s] w fun e w'=>∃ v,e=.returned v∧w'.ownsRow w.heap.size 9 1 v ((Nm.split s).getD []).length (((Nm.split s).getD []).map Value.string)∧Below w.heap.size w w':=by
 go_enter Tryz.func78,Tryz.ntmps78;go_wp2_with (go_at_call 30;refine(gL s _ hs).mono ?_;rintro e w1 ⟨v,rfl,aU,aG⟩)
 go_ret;exact⟨_,rfl,aU,aG⟩
theorem aCm{name:ByteArray}{j:Nat}{q:Zp}(hq:ps[j]? =some q):uY ((ps.take (j+1)).map (·.1)) o name=mZ o name (uY ((ps.take j).map (·.1)) o name) q.1:=by
 rw [Nm.jJ hq,List.map_append,uY,uY,List.foldl_append];rfl
theorem I1(o name:ByteArray)(v:Value)(ps:List Zp)(w:World)(h:gG w v ps)(hf:∀ p∈ps,p.1.own.size<=1048576)(hn:name.size<=maxLen)(ho:o.size<=maxLen):
 Calls Tryz.prog 90 #[.agg #[.string o,v],.string name] w fun e w'=>e=.returned (.string (uY (ps.map (·.1)) o name))∧Below w.heap.size w w':=by
 obtain⟨va,vc,rfl⟩:=mX h;have b0:=(aJ w.heap.size w).alloc (aI _) (.cells #[.string o,.slice va ps.length vc] 25);have k0:=aK w #[.string o,.slice va ps.length vc] 25;have HSm:=Nm.aD (fun(x:ByteArray) (hx:x.size<=1048576) W=>gM x o W (by unfold maxLen;omega) ho);have HUn:=Nm.aD (fun(x:ByteArray) (hx:x.size<=1048576) W=>iA name x W hn (by unfold maxLen;omega))
 have HLb:Hid (∀ (x:ByteArray) (hx:x.size<=1048576) W,Calls Tryz.prog 78 #[.string x] W fun e w'=>∃ a c,e=.returned (.slice a (sM x) c)∧Below W.heap.size W w'):=fun x hx W=>(JU x W (by unfold maxLen;omega)).mono (by
  rintro e w' ⟨u,rfl,hu,hb⟩;obtain⟨a,c,rfl⟩:=aT hu
  exact⟨a,c,rfl,hb⟩)
 have HLN:Hid (∀ (x:ByteArray),x.size<=1048576->sM x<=1000):=fun x hx=>by
  show sM x<=1000
  rw [sM]
  cases hq:Nm.split x with
  |none=>simp
  |some xs=>
   have h1:=Nm.dK hq;have h2:=Nm.bL xs;show xs.length<=1000
   omega
 have HZ:=Nm.aD (fun W (hW:Below w.heap.size w W)=>h.below hW);have HF:=Nm.aD hf;have HG:Hid (∀ W,Below w.heap.size w W->w.heap.size<=W.heap.size):=fun W hW=>hW.size
 have RG:ps.length<=maxLen:=by obtain⟨⟨_,a,c,e,h1,h2,_⟩,_⟩:=h;simp only [gK] at e;omega
 unfold maxLen at RG;clear h hf;go_enter Tryz.func90,Tryz.ntmps90;go_wp2;generalize AQ:w.heap.size=g at*;have WT:=Nm.aD AQ;clear AQ
 go_loopw [5,6] (fun bv i wr=>∃ (j:Nat) (bs:ByteArray),j<=ps.length∧i=.int .i64 j∧bv=.string bs∧bs.size<=1048576∧bs=uY ((ps.take j).map (·.1)) o name∧Below g w wr∧bW wr g #[.string o,.slice va ps.length vc] 25) (fun _ i _=>ps.length-(intOf i).toNat)
 ·exact⟨0,⟨#[]⟩,dR _,rfl,rfl,by decide,rfl,b0,k0⟩
 clear b0 k0;obtain⟨j,bs,hj,rfl,rfl,ZQ,hbe,hb,kz⟩:=hrel;have HBE:=Nm.aD hbe;have rz:=aA kz
 clear hbe
 by_cases bY:j<ps.length
 ·obtain⟨q,hq⟩:=gQ bY;obtain⟨⟨_,a9,c9,e9,_,_,CR⟩,NV⟩:=HZ.out _ hb;simp only [gK] at e9;obtain⟨rfl,_,rfl⟩:=e9;obtain⟨b,off,rfl,aH⟩:=CR (by omega);obtain⟨d0,d1,d2,d3⟩:=iE aH hq;have hfq:=HF.out q (dA hq);obtain⟨ua,un,uc,hu⟩:∃ ua un uc,q.2=.slice ua un uc:=by obtain⟨a,c,e,_⟩:=NV q (dA hq);exact⟨a,_,c,e⟩
  have n1:=fE j
  have n2:(j:Int)<(ps.length:Int):=by omega
  have RJ:Hid (uY ((ps.take (j+1)).map (·.1)) o name=mZ o name bs q.1):=by show _=_;rw [aCm hq,HBE.out]
  clear CR NV aH hq;obtain⟨⟨x,ty,tt,ds⟩,u⟩:=q;simp only at d0 d1 d2 d3 hfq hu
  subst hu;have kS:=aK wr #[.string x,.int .i64 ty,.int .i64 tt,.slice ua un uc] 42;have bS:=(aJ wr.heap.size wr).alloc (aI _) (.cells #[.string x,.int .i64 ty,.int .i64 tt,.slice ua un uc] 42);have uI:=aB kz bS;have kH:=hb.trans (bS.mono (HG.out _ hb));have rS:=aA kS
  by_cases tT:ty=2
  ·have t1:(ty==2)=true:=by simp [tT]
   have HTY:=Nm.aD tT;have rz2:=aA uI
   have HSX:=Nm.aD (HSm.out x hfq);clear tT
   cases rW:eQ x o with
   |true=>
    have HN:Hid (bs=uY ((ps.take (j+1)).map (·.1)) o name):=by show _=_;rw [RJ.out,mZ,pF];simp [rW]
    rw [rW] at HSX;clear rW RJ;go_wp2_with (go_at_call 13;refine(HSX.out _).mono ?_;rintro e w1 ⟨rfl,b1⟩)
    go_roundw
    ·exact⟨j+1,bs,bY,by go_num,rfl,ZQ,HN.out,kH.trans (b1.mono (HG.out _ kH)),aB uI b1⟩
    simp [intOf];omega
   |false=>
    rw [rW] at HSX;have HSB:=Nm.aD rW;clear rW;go_wp2_with fail
    refine(HSX.out _).mono ?_;rintro e w1 ⟨rfl,b1⟩;have EY:=aB kS b1;have FY:=aB uI b1;have gP:=kH.trans (b1.mono (HG.out _ kH));have rS1:=aA EY
    have XA:=HUn.out x hfq w1;clear kS uI kH b1 rS rz rz2 d0 d1 d2 d3 HSX kz hb bS;generalize wr.heap.size=sp at*;cases xR:cZ name x
    ·have HN:Hid (bs=uY ((ps.take (j+1)).map (·.1)) o name):=by show _=_;rw [RJ.out,mZ,pF];simp [xR]
     rw [xR] at XA;clear xR RJ;go_wp2_with (go_at_call 12;refine XA.mono ?_;rintro e w2 ⟨rfl,b2⟩)
     go_roundw
     ·exact⟨j+1,bs,bY,by go_num,rfl,ZQ,HN.out,gP.trans (b2.mono (HG.out _ gP)),aB FY b2⟩
     simp [intOf];omega
    have HCA:Hid (pF o name ⟨x,ty,tt,ds⟩=true):=by show _=_;rw [pF];simp [HTY.out,HSB.out,xR]
    rw [xR] at XA;clear xR
    by_cases hbn:bs=⟨#[]⟩
    ·have HN:Hid (x=uY ((ps.take (j+1)).map (·.1)) o name):=by show _=_;rw [RJ.out,mZ,HCA.out];simp [hbn]
     subst hbn;clear RJ HCA HBE;go_wp2_with fail
     refine XA.mono ?_;rintro e w2 ⟨rfl,b2⟩;have EZ:=aB EY b2;have rS2:=aA EZ
     have uI:=aB FY b2;have kH:=gP.trans (b2.mono (HG.out _ gP));clear EY rS1 FY gP b2 XA;go_wp2;go_roundw
     ·exact⟨j+1,x,bY,by go_num,rfl,hfq,HN.out,kH,uI⟩
     simp [intOf];omega
    obtain⟨m1,m2⟩:=iR (s:=bs) (Nat.pos_of_ne_zero fun e=>hbn (by
     cases bs with|mk d=>
     congr
     exact Array.eq_empty_of_size_eq_zero e))
    have HBN:=Nm.aD hbn;clear hbn;go_wp2_with fail
    refine XA.mono ?_;rintro e w2 ⟨rfl,b2⟩;have EZ:=aB EY b2;have rS2:=aA EZ
    have uI:=aB FY b2;have kH:=gP.trans (b2.mono (HG.out _ gP));clear EY rS1 FY gP b2 XA;have GD:=HLb.out x hfq w2;go_wp2_with fail
    refine GD.mono ?_;rintro e w3 ⟨xa,xc,rfl,b3⟩;have UE:=aB EZ b3;have uD:=aB uI b3;have uC:=kH.trans (b3.mono (HG.out _ kH));have BA:=HLb.out bs ZQ w3;clear EZ rS2 uI kH b3 GD
    by_cases Jr:sM x<sM bs
    ·have HN:Hid (x=uY ((ps.take (j+1)).map (·.1)) o name):=by show _=_;rw [RJ.out,mZ,HCA.out];simp [Jr]
     have i1:(sM x:Int)<(sM bs:Int):=by omega
     clear RJ HCA HBE Jr;generalize sM x=LX at*;generalize sM bs=LB at*;go_wp2_with fail
     refine BA.mono ?_;rintro e w4 ⟨ya,yc,rfl,b4⟩;have kS4:=aB UE b4;have rS4:=aA kS4
     have NQ:=aB uD b4;have nN:=uC.trans (b4.mono (HG.out _ uC));clear UE uD uC b4 BA;go_wp2;go_roundw
     ·exact⟨j+1,x,bY,by go_num,rfl,hfq,HN.out,nN,NQ⟩
     simp [intOf];omega
    have HN:Hid (bs=uY ((ps.take (j+1)).map (·.1)) o name):=by show _=_;rw [RJ.out,mZ,HCA.out];simp [Jr,HBN.out]
    have i1:(sM bs:Int)<=(sM x:Int):=by omega
    clear RJ HCA HBE Jr;generalize sM x=LX at*;generalize sM bs=LB at*;go_wp2_with fail
    refine BA.mono ?_;rintro e w4 ⟨ya,yc,rfl,b4⟩;have NQ:=aB uD b4;have nN:=uC.trans (b4.mono (HG.out _ uC));clear UE uD uC b4 BA;go_wp2;go_roundw
    ·exact⟨j+1,bs,bY,by go_num,rfl,ZQ,HN.out,nN,NQ⟩
    simp [intOf];omega
  have t1:(ty==2)=false:=by simp [tT]
  have HN:Hid (bs=uY ((ps.take (j+1)).map (·.1)) o name):=by show _=_;rw [RJ.out,mZ,pF];simp [tT]
  clear tT;go_wp2;go_roundw
  ·exact⟨j+1,bs,bY,by go_num,rfl,ZQ,HN.out,kH,uI⟩
  simp [intOf];omega
 obtain rfl:j=ps.length:=by omega
 rw [List.take_length] at HBE;go_wp2;go_ret;rw [WT.out];exact⟨by rw [<- HBE.out];rfl,hb⟩
