import Derived.Test.YtcodajnebegdiaaGreatJFnS
import Derived.Test.YtcodajnebegdiaaGreatJZbB
import Derived.Test.YtcodajnebegdiaaGreatJMath
import Derived.Laws.AppendOwnNone
import Derived.Test.YtcodajnebegdiaaGreatJZbA
import Derived.Test.YtcodajnebegdiaaGreatJBzL
import Derived.Test.YtcodajnebegdiaaGreatJBzA
import Derived.Test.YtcodajnebegdiaaGreatJTbBI
namespace Go.Proofs.YtcodajnebegdiaaGreat
open Go.RowKit
theorem wsum_two:∀ (ls:List ByteArray),(∀ x∈ls,1<=x.size∧x.size<=63)->2*ls.length<=Nm.wsum ls:=by
 intro ls
 induction ls with
 |nil=>intro _;simp
 |cons x r ih=>
  intro h;have h1:=h x List.mem_cons_self;have h2:=ih (fun y hy=>h y (List.mem_cons_of_mem _ hy));simp only [Nm.wsum,List.length_cons];omega
theorem make_wire_ok{ls:List ByteArray}(h:∀ x∈ls,1<=x.size∧x.size<=63):makeS ls=(wireS ls,wireC ls):=by
 have hb:ls.any badB=false:=by
  rw [List.any_eq_false];intro x hx;have h1:=h x hx;have h2:badB x=false:=by rw [badB,decide_eq_false];omega
  simp [h2]
 by_cases hl:127<ls.length
 ·have:=wsum_two ls h;rw [make_many hl,wireS,wireC,if_pos (by omega),if_pos (by omega)]
 ·exact make_wire (by omega) hb
end Go.Proofs.YtcodajnebegdiaaGreat
namespace Go.Proofs.YtcodajnebegdiaaGreat
open Go.RowKit
theorem srow_news{w:World}{ad:Addr}{n cap:Nat}{xs:List ByteArray}(h:Nm.SRow w (.slice (some ad) n cap) xs):∀ j u,(xs.map Value.string)[j]? =some u->w.cell? (ad.add j)=some u:=by
 obtain⟨a',cap',e,h1,h2,h3,h4⟩:=h;simp only [Value.slice.injEq] at e;obtain⟨rfl,_,rfl⟩:=e;intro j u hj;have hne:xs≠[]:=by intro h;rw [h] at hj;simp at hj
 obtain⟨b,off,e2,hc⟩:=h4 hne;simp only [Option.some.injEq] at e2;subst e2;rw [List.getElem?_map] at hj
 cases hx:xs[j]? with
 |none=>rw [hx] at hj;simp at hj
 |some x=>
  rw [hx] at hj;simp at hj;rw [Nm.addr_add,<- hj];exact hc j x hx
theorem srow_none{w:World}{n cap:Nat}{xs:List ByteArray}(h:Nm.SRow w (.slice none n cap) xs):xs=[]∧n=0∧cap=0:=by
 obtain⟨a',cap',e,h1,h2,h3,h4⟩:=h;simp only [Value.slice.injEq] at e;obtain⟨rfl,rfl,rfl⟩:=e;have:=h3 rfl;have h0:xs.length=0:=by omega
 exact⟨List.length_eq_zero_iff.1 h0,h0,this⟩
theorem strs_oneCell(xs:List ByteArray):∀ u∈xs.map Value.string,u.oneCell'=true:=by
 intro u hu;obtain⟨x,_,rfl⟩:=List.mem_map.1 hu;rfl
theorem strs_step{W wr w1:World}{v v':Value}{B e n m:Nat}{xs ys:List ByteArray}(hB:B<=wr.heap.size)
 (hown:wr.ownsRow B e 1 v n (xs.map Value.string)) (hbel:Below B W wr)
 (hown':w1.ownsRow B e 1 v' (n+m) (xs.map Value.string++ys.map Value.string)) (hgrow:wr.grownBy w1 v.ownBlock):
 w1.ownsRow B e 1 v' (n+m) ((xs++ys).map Value.string)∧Below B W w1:=
 ⟨by rw [List.map_append];exact hown',hbel.grown hgrow hB (fun k hk=>(hown.lt k hk).1)⟩
theorem nil_row{w w1:World}{B e:Nat}{v:Value}(h:w1.ownsRow B e 1 v 0 [])(hb:Below B w w1):w1.ownsRow B e 1 v 0 (([]:List ByteArray).map Value.string)∧Below B w w1:=⟨h,hb⟩
set_option maxRecDepth 100000 in
set_option maxHeartbeats 800000 in
theorem join_any(v u:Value)(xs ys:List ByteArray)(w:World)(h:Nm.SRow w v xs)(h':Nm.SRow w u ys)(hlx:xs.length<=1000000)(hly:ys.length<=1000000):
 Calls Tryz.prog 59 #[v,u] w fun e w'=>∃ t,e=.returned t∧w'.ownsRow w.heap.size 9 1 t (xs++ys).length ((xs++ys).map Value.string)∧Below w.heap.size w w':=by
 obtain⟨i0,hi,hz0,hz1,hz2⟩:=info_parts Tryz.infoStr;have hr:=h;have hr':=h';obtain⟨a,cap,rfl,hcap,hmx,hnl,hc⟩:=h;obtain⟨a',cap',rfl,hcap',hmx',hnl',hc'⟩:=h';clear hc hc' hnl hnl'
 cases a with
 |some ad=>
  cases a' with
  |some ad'=>
   go_enter Tryz.func59,Tryz.ntmps59;go_wp2_with (first|(at_make;refine wpList_make_own _ rfl _ _ 53 rfl w.heap.size 9 i0 (.string ByteArray.empty) 1 Tryz.underlying53 hi hz0 hz1 .i64 .i64 _ (xs.length+ys.length) rfl rfl (by omega) (by rw [hz2];omega) (by unfold maxLen;omega) (Nat.le_refl _) ?_;intro w1 hown0 hgrow0;have hb1:=(Below.refl w.heap.size w).grown hgrow0 (Nat.le_refl _) (fun k hk=>by cases hk);have hs1:=hb1.size)|(at_builtin;refine wpList_append_own _ rfl (.tmp 12) (.tmp 13) 53 rfl w.heap.size 9 i0 (.string ByteArray.empty) 1 16 Tryz.underlying53 hi hz0 hz1 hz2 rfl (by decide) _ _ _ rfl hown0 ad xs.length cap (xs.map Value.string) rfl (by simp) (srow_news (hr.below hb1)) (strs_oneCell _) (by unfold maxLen;omega) (by omega) hs1 ?_;intro v2 w2 hown1 hgrow1 hnl1;clear hnl1;have R1:=strs_step (xs:=[]) hs1 hown0 hb1 hown1 hgrow1;clear hown1 hgrow1;have hs2:=R1.2.size)|(at_builtin;refine wpList_append_own _ rfl (.tmp 15) (.tmp 16) 53 rfl w.heap.size 9 i0 (.string ByteArray.empty) 1 16 Tryz.underlying53 hi hz0 hz1 hz2 rfl (by decide) _ _ _ rfl R1.1 ad' ys.length cap' (ys.map Value.string) rfl (by simp) (srow_news (hr'.below R1.2)) (strs_oneCell _) (by unfold maxLen;omega) (by omega) hs2 ?_;intro v3 w3 hown3 hgrow3 hnl3;clear hnl3;have R3:=strs_step hs2 R1.1 R1.2 hown3 hgrow3;clear hown3 hgrow3))
   go_ret
   exact⟨_,rfl,by simpa using R3.1,R3.2⟩
  |none=>
   obtain⟨rfl,_,rfl⟩:=srow_none hr';go_enter Tryz.func59,Tryz.ntmps59;go_wp2_with (first|(at_make;refine wpList_make_own _ rfl _ _ 53 rfl w.heap.size 9 i0 (.string ByteArray.empty) 1 Tryz.underlying53 hi hz0 hz1 .i64 .i64 _ (xs.length) rfl rfl (by omega) (by rw [hz2];omega) (by unfold maxLen;omega) (Nat.le_refl _) ?_;intro w1 hown0 hgrow0;have hb1:=(Below.refl w.heap.size w).grown hgrow0 (Nat.le_refl _) (fun k hk=>by cases hk);have hs1:=hb1.size)|(at_builtin;refine wpList_append_own _ rfl (.tmp 12) (.tmp 13) 53 rfl w.heap.size 9 i0 (.string ByteArray.empty) 1 16 Tryz.underlying53 hi hz0 hz1 hz2 rfl (by decide) _ _ _ rfl hown0 ad xs.length cap (xs.map Value.string) rfl (by simp) (srow_news (hr.below hb1)) (strs_oneCell _) (by unfold maxLen;omega) (by omega) hs1 ?_;intro v2 w2 hown1 hgrow1 hnl1;clear hnl1;have R1:=strs_step (xs:=[]) hs1 hown0 hb1 hown1 hgrow1;clear hown1 hgrow1;have hs2:=R1.2.size)|(at_builtin;refine wpList_append_own_none rfl (.tmp 15) (.tmp 16) 53 rfl w.heap.size 9 i0 1 Tryz.underlying53 hi _ _ _ rfl R1.1 rfl ?_;have R3:=R1))
   go_ret
   exact⟨_,rfl,by simpa using R3.1,R3.2⟩
 |none=>
  obtain⟨rfl,_,rfl⟩:=srow_none hr
  cases a' with
  |some ad'=>
   go_enter Tryz.func59,Tryz.ntmps59;go_wp2_with (first|(at_make;refine wpList_make_own _ rfl _ _ 53 rfl w.heap.size 9 i0 (.string ByteArray.empty) 1 Tryz.underlying53 hi hz0 hz1 .i64 .i64 _ (ys.length) rfl rfl (by omega) (by rw [hz2];omega) (by unfold maxLen;omega) (Nat.le_refl _) ?_;intro w1 hown0 hgrow0;have hb1:=(Below.refl w.heap.size w).grown hgrow0 (Nat.le_refl _) (fun k hk=>by cases hk);have hs1:=hb1.size)|(at_builtin;refine wpList_append_own_none rfl (.tmp 12) (.tmp 13) 53 rfl w.heap.size 9 i0 1 Tryz.underlying53 hi _ _ _ rfl hown0 rfl ?_;have R1:=nil_row hown0 hb1;have hs2:=hs1)|(at_builtin;refine wpList_append_own _ rfl (.tmp 15) (.tmp 16) 53 rfl w.heap.size 9 i0 (.string ByteArray.empty) 1 16 Tryz.underlying53 hi hz0 hz1 hz2 rfl (by decide) _ _ _ rfl R1.1 ad' ys.length cap' (ys.map Value.string) rfl (by simp) (srow_news (hr'.below R1.2)) (strs_oneCell _) (by unfold maxLen;omega) (by omega) hs2 ?_;intro v3 w3 hown3 hgrow3 hnl3;clear hnl3;have R3:=strs_step hs2 R1.1 R1.2 hown3 hgrow3;clear hown3 hgrow3))
   go_ret
   exact⟨_,rfl,by simpa using R3.1,R3.2⟩
  |none=>
   obtain⟨rfl,_,rfl⟩:=srow_none hr';go_enter Tryz.func59,Tryz.ntmps59;go_wp2_with (first|(at_make;refine wpList_make_own _ rfl _ _ 53 rfl w.heap.size 9 i0 (.string ByteArray.empty) 1 Tryz.underlying53 hi hz0 hz1 .i64 .i64 _ (0) rfl rfl (by omega) (by rw [hz2];omega) (by unfold maxLen;omega) (Nat.le_refl _) ?_;intro w1 hown0 hgrow0;have hb1:=(Below.refl w.heap.size w).grown hgrow0 (Nat.le_refl _) (fun k hk=>by cases hk);have hs1:=hb1.size)|(at_builtin;refine wpList_append_own_none rfl (.tmp 12) (.tmp 13) 53 rfl w.heap.size 9 i0 1 Tryz.underlying53 hi _ _ _ rfl hown0 rfl ?_;have R1:=nil_row hown0 hb1;have hs2:=hs1)|(at_builtin;refine wpList_append_own_none rfl (.tmp 15) (.tmp 16) 53 rfl w.heap.size 9 i0 1 Tryz.underlying53 hi _ _ _ rfl R1.1 rfl ?_;have R3:=R1))
   go_ret;exact⟨_,rfl,by simpa using R3.1,R3.2⟩
end Go.Proofs.YtcodajnebegdiaaGreat
namespace Go.Proofs.YtcodajnebegdiaaGreat
open Go.RowKit
theorem SRow_take{w:World}{a:Option Addr}{ls:List ByteArray}{cap d:Nat}(h:Nm.SRow w (.slice a ls.length cap) ls)(hd:d<=ls.length):Nm.SRow w (.slice a d cap) (ls.take d):=by
 obtain⟨a',cap',e,h1,h2,h3,h4⟩:=h;simp only [Value.slice.injEq] at e;obtain⟨rfl,_,rfl⟩:=e;have hl:(ls.take d).length=d:=by simp;omega
 refine⟨a,cap,by rw [hl],by omega,h2,h3,fun hne=>?_⟩;obtain⟨b,off,e2,hc⟩:=h4 (by intro h;rw [h] at hne;simp at hne);refine⟨b,off,e2,?_⟩;intro i x hx;refine hc i x ?_;rw [List.getElem?_take] at hx
 split at hx
 ·exact hx
 ·simp at hx
def replS(a b c:ByteArray):ByteArray×Int:=
 match Nm.split a,Nm.split b,Nm.split c with
 |some xs,some ys,some zs=>if underB xs ys=true∧xs.length≠ys.length then makeS (xs.take (xs.length-ys.length)++zs) else(ByteArray.empty,22)
 |_,_,_=>(ByteArray.empty,32)
theorem repl_bad{a b c:ByteArray}(h:Nm.split a=none∨Nm.split b=none∨Nm.split c=none):replS a b c=(ByteArray.empty,32):=by
 unfold replS;cases ha:Nm.split a<;>cases hb:Nm.split b<;>cases hc:Nm.split c<;>simp_all
theorem repl_zone{a b c:ByteArray}{xs ys zs:List ByteArray}(ha:Nm.split a=some xs)(hb:Nm.split b=some ys)(hc:Nm.split c=some zs)(h:¬(underB xs ys=true∧xs.length≠ys.length)):replS a b c=(ByteArray.empty,22):=by
 simp only [replS,ha,hb,hc];rw [if_neg h]
theorem repl_good{a b c:ByteArray}{xs ys zs:List ByteArray}(ha:Nm.split a=some xs)(hb:Nm.split b=some ys)(hc:Nm.split c=some zs)(h:underB xs ys=true∧xs.length≠ys.length):replS a b c=makeS (xs.take (xs.length-ys.length)++zs):=by
 simp only [replS,ha,hb,hc];rw [if_pos h]
end Go.Proofs.YtcodajnebegdiaaGreat
namespace Go.Proofs.YtcodajnebegdiaaGreat
open Go.RowKit
set_option linter.unusedVariables false
structure Stp where
 kd:Int
 ss:List Sz
 wild:Bool
 tgt:ByteArray
abbrev stp(k:Int):Stp:=⟨k,[],false,⟨#[]⟩⟩
def hdB(l:List ByteArray):ByteArray:=l.headD ⟨#[]⟩
def ndsZ(ss:List Sz)(name:ByteArray):List Sz:=ss.filter fun s=>sameS s.own name
def atZ(ss:List Sz)(q:Int):Stp:=
 if q=255∧0<ss.length then⟨3,ss,false,⟨#[]⟩⟩ else
 match ss.find? (fun s=>decide (s.ty=q)) with
 |some s=>⟨3,[s],false,⟨#[]⟩⟩
 |none=>match ss.find? (fun s=>decide (s.ty=5)) with
  |some s=>⟨4,[s],false,hdB s.da⟩
  |none=>stp 5
def ownZ(name:ByteArray)(s:Sz):Sz:=⟨name,s.ty,s.tt,s.da⟩
def wldS(name:ByteArray)(x:Stp):Stp:=⟨x.kd,x.ss.map (ownZ name),true,x.tgt⟩
def strN(x:ByteArray):ByteArray:=⟨#[1,42]⟩++x
def tailS(s:Sz)(r:ByteArray×Int):Stp:=if r.2=0 then⟨6,[s],false,r.1⟩ else⟨7,[s],false,⟨#[]⟩⟩
def lkN(N:Nd)(ss:List Sz)(th:ByteArray->Bool)(name:ByteArray)(q:Int):Stp:=
 if N.kd=0 then stp 1
 else if N.kd=4∨N.kd=5 then⟨2,[(fndZ ss N.cut 2).getD sz0],false,⟨#[]⟩⟩
 else if N.kd=3∨N.kd=2 then atZ (ndsZ ss name) q
 else match fndZ ss N.clo 39 with
  |some s=>tailS s (replS name N.clo (hdB s.da))
  |none=>if th (strN N.clo)=true then wldS name (atZ (ndsZ ss (strN N.clo)) q) else stp 8
def lkZ(ps:List Zp)(o name:ByteArray)(q:Int):Stp:=lkN (ndZ ps o name) (ps.map (·.1)) (thZ ps o) name q
section
variable {N:Nd}{ss:List Sz}{th:ByteArray->Bool}{name:ByteArray}{q:Int}
theorem lkN_0(h:N.kd=0):lkN N ss th name q=stp 1:=if_pos h
theorem lkN_4(h:N.kd=4∨N.kd=5):lkN N ss th name q=⟨2,[(fndZ ss N.cut 2).getD sz0],false,⟨#[]⟩⟩:=by rw [lkN,if_neg (by omega),if_pos h]
theorem lkN_3(h:N.kd=3∨N.kd=2):lkN N ss th name q=atZ (ndsZ ss name) q:=by rw [lkN,if_neg (by omega),if_neg (by omega),if_pos h]
theorem lkN_y(h:N.kd=1){s:Sz}(hs:fndZ ss N.clo 39=some s):lkN N ss th name q=tailS s (replS name N.clo (hdB s.da)):=by rw [lkN,if_neg (by omega),if_neg (by omega),if_neg (by omega),hs]
theorem lkN_w(h:N.kd=1)(hs:fndZ ss N.clo 39=none):lkN N ss th name q=if th (strN N.clo)=true then wldS name (atZ (ndsZ ss (strN N.clo)) q) else stp 8:=by rw [lkN,if_neg (by omega),if_neg (by omega),if_neg (by omega),hs]
end
def setsT(c:GOw)(q:Int):List Sz:=(c.ss.filter fun s=>decide (q=s.ty)||decide (q=255)).map fun s=>szT (c,s)
def atG(c:GOw)(q:Int):Stp:=
 if 0<(setsT c q).length then⟨3,setsT c q,false,⟨#[]⟩⟩ else
 match c.ss.find? (fun s=>decide (s.ty=5)) with
 |some s=>⟨4,[szT (c,s)],false,hdB (szT (c,s)).da⟩
 |none=>stp 5
def atT(os:List GOw)(lab:List ByteArray)(q:Int):Stp:=if isIn (oCmp lab) os=true then(match os[posOf (oCmp lab) os]? with|some c=>atG c q|none=>stp 5) else stp 5
theorem filt_one{q:Int}:∀ {l:List GSe},SeS l->(l.filter fun s=>decide (q=s.ty))=(l.find? fun s=>decide (s.ty=q)).toList
 |[],_=>rfl
 |s::l,h=>by
  obtain⟨h1,h2⟩:=List.pairwise_cons.1 h
  by_cases e:s.ty=q
  ·subst e;rw [List.filter_cons,if_pos (by simp),List.find?_cons_of_pos (by simp)];rw [List.filter_eq_nil_iff.2 (fun x hx=>by have:=h1 x hx;simp;omega)];rfl
  ·rw [List.filter_cons,if_neg (by simp;omega),List.find?_cons_of_neg (by simpa using e)];exact filt_one h2
theorem sets_one{c:GOw}{q:Int}(h:SeS c.ss)(hq:q≠255):setsT c q=((c.ss.find? fun s=>decide (s.ty=q)).map fun s=>szT (c,s)).toList:=by
 have e:(c.ss.filter fun s=>decide (q=s.ty)||decide (q=255))=c.ss.filter fun s=>decide (q=s.ty):=by
  congr 1;funext s
  simp [hq]
 rw [setsT,e,filt_one h];cases c.ss.find? fun s=>decide (s.ty=q)<;>rfl
theorem sets_all(c:GOw):setsT c 255=c.ss.map fun s=>szT (c,s):=by
 rw [setsT,List.filter_eq_self.2 (fun s _=>by simp)]
theorem at_eq{c:GOw}{q:Int}(h:SeS c.ss)(hf:∃ s,s∈c.ss):atG c q=atZ (c.ss.map fun s=>szT (c,s)) q:=by
 obtain⟨s0,hs0⟩:=hf;have hl:=List.length_pos_of_mem hs0;rw [atG,atZ]
 by_cases hq:q=255
 ·subst hq;rw [sets_all,if_pos (by simpa using hl),if_pos (⟨rfl,by simpa using hl⟩:(255:Int)=255∧0<(c.ss.map fun s=>szT (c,s)).length)]
 ·rw [sets_one h hq,if_neg (fun e:q=255∧_=>hq e.1),List.find?_map,List.find?_map];have e1:((fun s:Sz=>decide (s.ty=q))∘fun s=>szT (c,s))=fun s=>decide (s.ty=q):=rfl
  have e2:((fun s:Sz=>decide (s.ty=5))∘fun s=>szT (c,s))=fun s=>decide (s.ty=5):=rfl
  rw [e1,e2]
  cases c.ss.find? fun s=>decide (s.ty=q) with
  |some s=>rw [if_pos (by simp)];rfl
  |none=>
   rw [if_neg (by simp)];cases c.ss.find? fun s=>decide (s.ty=5)<;>rfl
theorem at_nil(q:Int):atZ [] q=stp 5:=by
 rw [atZ,if_neg (by simp)];rfl
theorem at_own(name:ByteArray)(ss:List Sz)(q:Int):atZ (ss.map (ownZ name)) q=⟨(atZ ss q).kd,(atZ ss q).ss.map (ownZ name),(atZ ss q).wild,(atZ ss q).tgt⟩:=by
 rw [atZ,atZ,List.length_map]
 by_cases hq:q=255∧0<ss.length
 ·rw [if_pos hq,if_pos hq]
 ·rw [if_neg hq,if_neg hq,List.find?_map,List.find?_map];have e1:((fun s:Sz=>decide (s.ty=q))∘ownZ name)=fun s=>decide (s.ty=q):=rfl
  have e2:((fun s:Sz=>decide (s.ty=5))∘ownZ name)=fun s=>decide (s.ty=5):=rfl
  rw [e1,e2]
  cases ss.find? fun s=>decide (s.ty=q) with
  |some s=>rfl
  |none=>cases ss.find? fun s=>decide (s.ty=5)<;>rfl
def ndF(lab:List ByteArray)(q:GOw):List Sz:=if Nm.cmpLs q.lab lab=0 then q.ss.map fun s=>szT (q,s) else []
theorem nds_flat{name:ByteArray}{lab:List ByteArray}(hn:Nm.split name=some lab):∀ (os:List GOw),(∀ q∈os,Nm.split q.nm=some q.lab)->ndsZ (zoneT os) name=os.flatMap (ndF lab)
 |[],_=>rfl
 |q::os,h=>by
  have ih:=nds_flat hn os (fun r hr=>h r (List.mem_cons_of_mem _ hr))
  have e1:zoneT (q::os)=(q.ss.map fun s=>szT (q,s))++zoneT os:=by
   simp [zoneT,grT,List.flatMap_cons,List.map_append,List.map_map,Function.comp_def]
  have e2:ndsZ (zoneT (q::os)) name=ndsZ (q.ss.map fun s=>szT (q,s)) name++ndsZ (zoneT os) name:=by
   rw [e1,ndsZ,ndsZ,ndsZ,List.filter_append]
  rw [e2,ih,List.flatMap_cons];congr 1;have hs:sameS q.nm name=decide (Nm.cmpLs q.lab lab=0):=same_cmp (h q List.mem_cons_self) hn;rw [ndsZ,ndF]
  by_cases hc:Nm.cmpLs q.lab lab=0
  ·rw [if_pos hc,List.filter_eq_self.2 (fun z hz=>by obtain⟨s,-,rfl⟩:=List.mem_map.1 hz;show sameS q.nm name=true;rw [hs];simpa using hc)]
  ·rw [if_neg hc,List.filter_eq_nil_iff.2 (fun z hz=>by obtain⟨s,-,rfl⟩:=List.mem_map.1 hz;show ¬sameS q.nm name=true;rw [hs];simpa using hc)]
theorem ndf_no{lab:List ByteArray}{os:List GOw}(h:∀ q∈os,Nm.cmpLs q.lab lab≠0):os.flatMap (ndF lab)=[]:=by
 rw [List.flatMap_eq_nil_iff];intro q hq;rw [ndF,if_neg (h q hq)]
theorem ndf_yes{lab:List ByteArray}:∀ {os:List GOw},OwS os->∀ q∈os,Nm.cmpLs q.lab lab=0->os.flatMap (ndF lab)=q.ss.map fun s=>szT (q,s)
 |[],_,_,hq,_=>by cases hq
 |r::os,h,q,hq,h0=>by
  obtain⟨h1,h2⟩:=List.pairwise_cons.1 h;rw [List.flatMap_cons]
  rcases List.mem_cons.1 hq with rfl|hq
  ·rw [ndf_no (lab:=lab) (fun x hx e=>by have:=h1 x hx;rw [cmpLs_eq_left h0] at this;have h9:=cmpLs_symm e;omega),ndF,if_pos h0,List.append_nil]
  ·have:=h1 q hq;rw [ndf_yes h2 q hq h0,ndF,if_neg (fun e=>by rw [cmpLs_eq_left e] at this;have h9:=cmpLs_symm h0;omega)];rfl
theorem TZ.at{o name:ByteArray}{al lab:List ByteArray}{os:List GOw}(h:TZ os o al)(hn:Nm.split name=some lab)(q:Int):atT os lab q=atZ (ndsZ (zoneT os) name) q:=by
 rw [nds_flat hn os h.nm,atT]
 rcases isIn_own h.srt.1 lab with⟨hi,c,hc,hp,h0⟩|⟨hi,hno⟩
 ·rw [ndf_yes h.srt.1 c hc h0,hi,hp,if_pos rfl];exact at_eq (h.srt.2 c hc) (h.full c hc)
 ·rw [ndf_no hno,hi,if_neg (by decide),at_nil]
theorem TZ.fnd{o name:ByteArray}{al lab:List ByteArray}{os:List GOw}(h:TZ os o al)(hn:Nm.split name=some lab){t:Int}{c:GOw}{s:GSe}(hc:c∈os)(hs:s∈c.ss)(h1:Nm.cmpLs c.lab lab=0)(h2:s.ty=t):fndZ (zoneT os) name t=some (szT (c,s)):=by
 rw [fndZ,zoneT,List.find?_map]
 have e:(grT os).find? ((fun s=>decide (s.ty=t)&&sameS s.own name)∘szT)=some (c,s):=by
  obtain⟨i,g,hF⟩:=First.ex (P:=fun g:GOw×GSe=>g.2.ty=t∧Nm.cmpLs g.1.lab lab=0) (l:=grT os) ⟨(c,s),grT_mem.2 ⟨hc,hs⟩,h2,h1⟩;have hg:=grT_mem.1 hF.mem;have e1:g.1=c:=h.one g.1 hg.1 c hc (by rw [cmpLs_eq_right (cmpLs_symm h1)|>.symm];exact hF.2.1.2);have e2:g.2=s:=(h.srt.2 c hc).one (by rw [<- e1];exact hg.2) hs (by rw [hF.2.1.1,h2]);have e3:g=(c,s):=by rw [<- e1,<- e2]
  rw [<- e3];refine hF.find _ (fun y hy=>?_)
  show(decide ((szT y).ty=t)&&sameS (szT y).own name)=true↔_
  rw [fnd_at hn h.nm y hy];simp
 rw [e];rfl
abbrev stL:ByteArray:=⟨#[42]⟩
theorem str_jo(y:List ByteArray):joB (stL::y)=strN (joB y):=by
 apply ByteArray.ext;apply Array.ext';simp [joB,strN,Nm.joinL,Nm.preL,ByteArray.size]
def lkT(os:List GOw)(al lab:List ByteArray)(name:ByteArray)(q:Int):Stp:=
 if underB lab al=true then
  match cutT os lab (lab.length-al.length) with
  |some c=>⟨2,setsT c 2,false,⟨#[]⟩⟩
  |none=>if(cloT os lab).length=lab.length then atT os lab q else
   match fndZ (zoneT os) (joB (cloT os lab)) 39 with
   |some s=>tailS s (makeS (lab.take (lab.length-(cloT os lab).length)++(Nm.split (hdB s.da)).getD []))
   |none=>if thT (stL::cloT os lab) os=true then wldS name (atT os (stL::cloT os lab) q) else stp 8
 else stp 1
theorem TZ.clo_at{o:ByteArray}{al:List ByteArray}{os:List GOw}(h:TZ os o al):∀ (y:List ByteArray),underB y al=true->∃ k,k+al.length<=y.length∧cloT os y=y.drop k
 |[],hu=>⟨0,by have:=(under_iff.1 hu).1;simpa using this,rfl⟩
 |x::xs,hu=>by
  obtain⟨u1,u2⟩:=under_iff.1 hu;rw [cloT];split
  ·exact⟨0,by omega,rfl⟩
  ·rename_i hq
   rcases Nat.lt_or_ge al.length (x::xs).length with h1|h1
   ·obtain⟨k,hk,e⟩:=h.clo_at xs (under_drop hu (k:=1) (by omega));exact⟨k+1,by simp at*;omega,by rw [e];rfl⟩
   ·rw [show(x::xs).length-al.length=0 by omega,List.drop_zero] at u2;exact absurd (h.topT u2) hq
theorem gl_star{lab:List ByteArray}(h:Gl lab){k:Nat}(hk:0<k)(hl:k<=lab.length):Gl (stL::lab.drop k):=by
 refine⟨fun x hx=>?_,?_⟩
 ·rcases List.mem_cons.1 hx with rfl|hx
  ·exact⟨by decide,by decide⟩
  ·exact h.1 x (List.mem_of_mem_drop hx)
 ·obtain⟨j,rfl⟩:∃ j,k=j+1:=⟨k-1,by omega⟩;have h1:=(h.drop j).2;have e:lab.drop j=lab[j]::lab.drop (j+1):=List.drop_eq_getElem_cons (by omega);have h2:=(h.1 lab[j] (List.getElem_mem _)).1;rw [e] at h1;simp only [Nm.wsum] at h1 ⊢;have h3:stL.size=1:=rfl;omega
theorem TZ.look{ps:List Zp}{o name:ByteArray}{al lab:List ByteArray}{os:List GOw}(h:TZ os o al)(hzs:ps.map (·.1)=zoneT os)(hn:Nm.split name=some lab)(hd:∀ c∈os,∀ s∈c.ss,s.ty=39->∃ zs,Nm.split (hdB (szT (c,s)).da)=some zs)(q:Int):lkT os al lab name q=lkZ ps o name q:=by
 have hg:=gl_split hn;obtain⟨N,hN⟩:∃ N,N=ndZ ps o name:=⟨_,rfl⟩;rw [lkT,lkZ,<- hN,hzs];rw [<- h.nd hzs hn,ndT] at hN
 cases hu:underB lab al with
 |false=>
  rw [hu,if_neg (by decide)] at hN
  rw [if_neg (by decide),lkN_0 (by rw [hN];rfl)]
 |true=>
  rw [hu,if_pos rfl] at hN;have k0:N.clo=joB (cloT os lab):=by rw [hN]
  have k1:N.cut=cutN (cutT os lab (lab.length-al.length)):=by rw [hN]
  have k2:N.kd=kdT lab (cloT os lab) (cutT os lab (lab.length-al.length)) (isIn (oCmp lab) os):=by rw [hN]
  clear hN;rw [if_pos rfl]
  rcases cut_some (lab:=lab) h.srt (lab.length-al.length) with⟨c1,c2⟩|⟨m,c,c1,c2,c3,c4,⟨s,hs,hs2⟩,c6⟩
  ·rw [c1] at k2 ⊢
   show(if(cloT os lab).length=lab.length then _ else _)=_
   cases hi:isIn (oCmp lab) os with
   |true=>
    have k3:N.kd=3:=by rw [k2,hi];rfl
    have hl:(cloT os lab).length=lab.length:=by
     rcases isIn_own h.srt.1 lab with⟨-,c,hc,hp,h0⟩|⟨hi',-⟩
     ·rw [clo_stop ((thT_iff h.srt.1 lab).2 ⟨c,hc,under_self h0⟩)]
     ·rw [hi] at hi';cases hi'
    rw [if_pos hl,lkN_3 (.inl k3),h.at hn q]
   |false=>
    have k3:N.kd=if(cloT os lab).length=lab.length then 2 else 1:=by rw [k2,hi];rfl
    by_cases hl:(cloT os lab).length=lab.length
    ·rw [if_pos hl] at k3;rw [if_pos hl,lkN_3 (.inr k3),h.at hn q]
    ·rw [if_neg hl] at k3;rw [if_neg hl];obtain⟨k,hk,ek⟩:=h.clo_at lab hu
     have hk0:0<k:=by
      rcases Nat.eq_zero_or_pos k with rfl|h0
      ·rw [ek,List.drop_zero] at hl;exact absurd rfl hl
      ·exact h0
     have hgc:Gl (cloT os lab):=by rw [ek];exact hg.drop k
     have hjc:=hgc.jo
     have huc:underB lab (cloT os lab)=true:=by
      rw [ek];refine under_iff.2 ⟨by rw [List.length_drop];omega,?_⟩;rw [List.length_drop,show lab.length-(lab.length-k)=k by omega];exact cmpLs_self _
     have hgs:Gl (stL::cloT os lab):=by rw [ek];exact gl_star hg hk0 (by omega)
     have hus:underB (stL::cloT os lab) al=true:=by
      obtain⟨u1,u2⟩:=under_iff.1 hu;refine under_iff.2 ⟨by rw [ek];simp;omega,?_⟩
      have e1:(stL::cloT os lab).drop ((stL::cloT os lab).length-al.length)=lab.drop (lab.length-al.length):=by
       rw [ek];have e2:(stL::lab.drop k).length-al.length=(lab.length-k-al.length)+1:=by simp;omega
       rw [e2,List.drop_succ_cons,List.drop_drop];congr 1;omega
      rw [e1];exact u2
     cases hf:fndZ (zoneT os) (joB (cloT os lab)) 39 with
     |some s=>
      have hne:lab.length≠(cloT os lab).length:=fun e=>hl e.symm
      obtain⟨zs,hzq⟩:∃ zs,Nm.split (hdB s.da)=some zs:=by
       rw [fndZ] at hf;have hm:=List.mem_of_find?_eq_some hf;have hp:=List.find?_some hf;obtain⟨g,hg1,rfl⟩:=List.mem_map.1 hm;obtain⟨g2,g3⟩:=grT_mem.1 hg1;simp only [Bool.and_eq_true,decide_eq_true_eq] at hp;exact hd g.1 g2 g.2 g3 hp.1
      rw [lkN_y k3 (by rw [k0];exact hf),k0,repl_good hn hjc hzq ⟨huc,hne⟩];show tailS s _=_
      rw [hzq]
      rfl
     |none=>
      rw [lkN_w k3 (by rw [k0];exact hf),k0]
      show(if thT (stL::cloT os lab) os=true then _ else _)=_
      rw [h.th hzs hgs hus,str_jo,h.at (name:=strN (joB (cloT os lab))) (by rw [<- str_jo];exact hgs.jo) q]
  ·rw [c2] at k1 k2 ⊢
   have e1:setsT c 2=[szT (c,s)]:=by
    rw [sets_one (h.srt.2 c c3) (by decide)]
    have e2:(c.ss.find? fun x=>decide (x.ty=2))=some s:=by
     cases hf:c.ss.find? fun x=>decide (x.ty=2) with
     |none=>
      have:=List.find?_eq_none.1 hf s hs
      simp [hs2] at this
     |some x=>
      have hp:=List.find?_some hf;simp only [decide_eq_true_eq] at hp;rw [(h.srt.2 c c3).one (List.mem_of_find?_eq_some hf) hs (by rw [hp,hs2])]
    rw [e2];rfl
   have e3:fndZ (zoneT os) (cutN (some c)) 2=some (szT (c,s)):=h.fnd (h.nm c c3) c3 hs (cmpLs_self _) hs2
   have k3:N.kd=4∨N.kd=5:=by
    rw [k2]
    show(if c.lab.length=lab.length then(4:Int) else 5)=4∨(if c.lab.length=lab.length then(4:Int) else 5)=5
    split
    ·exact .inl rfl
    ·exact .inr rfl
   rw [lkN_4 k3,k1,e3]
   show(⟨2,setsT c 2,false,⟨#[]⟩⟩:Stp)=_
   rw [e1];rfl
structure Csp (w0 w:World) (g:Nat) (x:ByteArray) (ty tt:Int) (v u:Value) (n:Nat) (xs:List ByteArray):Prop where
 ob:Blk w (g+1+1) #[.string x,.int .i64 ty,.int .i64 tt,u] 76
 mb:Blk w g #[.string x,.int .i64 ty,.int .i64 tt,v] 76
 zb:Blk w (g+1) #[.string ⟨#[]⟩,.int .i64 0,.int .i64 0,.slice none 0 0] 76
 own:w.ownsRow g 9 1 u n (xs.map Value.string)
 be:Below g w0 w
theorem Csp.below{w0 w w':World}{g:Nat}{x:ByteArray}{ty tt:Int}{v u:Value}{n:Nat}{xs:List ByteArray}(c:Csp w0 w g x ty tt v u n xs)(hb:Below w.heap.size w w')(hg:g<=w.heap.size):Csp w0 w' g x ty tt v u n xs:=
 ⟨blk_below c.ob hb,blk_below c.mb hb,blk_below c.zb hb,own_below c.own hb,c.be.trans (hb.mono hg)⟩
theorem Csp.grow{w0 w w':World}{g:Nat}{x:ByteArray}{ty tt:Int}{v u:Value}{n:Nat}{xs:List ByteArray}(c:Csp w0 w g x ty tt v u n xs)(hg:w.grownBy w' u.ownBlock)(hw:g<=w.heap.size):
 Blk w' (g+1+1) #[.string x,.int .i64 ty,.int .i64 tt,u] 76∧Blk w' g #[.string x,.int .i64 ty,.int .i64 tt,v] 76∧Blk w' (g+1) #[.string ⟨#[]⟩,.int .i64 0,.int .i64 0,.slice none 0 0] 76∧Below g w0 w':=
 ⟨blk_grown c.ob hg (own_nb c.own c.ob (by decide)),blk_grown c.mb hg (own_nb c.own c.mb (by decide)),blk_grown c.zb hg (own_nb c.own c.zb (by decide)),c.be.grown hg hw (fun k hk=>(c.own.lt k hk).1)⟩
set_option maxRecDepth 100000 in
set_option maxHeartbeats 1600000 in
theorem l06CopySet_any(s:Sz)(v:Value)(w:World)(h:Nm.SRow w v s.da)(hl:s.da.length<=100000000):
 Calls Tryz.prog 91 #[.agg #[.string s.own,.int .i64 s.ty,.int .i64 s.tt,v]] w fun e w'=>∃ u,e=.returned (.agg #[.string s.own,.int .i64 s.ty,.int .i64 s.tt,u])∧w'.ownsRow w.heap.size 9 1 u s.da.length (s.da.map Value.string)∧Below w.heap.size w w':=by
 obtain⟨j0,hj,k0,k1,k2⟩:=info_parts Tryz.infoStr;obtain⟨x,ty,tt,ds⟩:=s;simp only at h hl ⊢
 obtain⟨va,vc,rfl,-,-,-,-⟩:=id h;have hB0:=(Below.refl w.heap.size w).alloc (Nat.le_refl _) (.cells #[.string x,.int .i64 ty,.int .i64 tt,.slice va ds.length vc] 76);have hB1:=hB0.alloc hB0.size (.cells #[.string ⟨#[]⟩,.int .i64 0,.int .i64 0,.slice none 0 0] 76);have hB2:=hB1.alloc hB1.size (.cells #[.string x,.int .i64 ty,.int .i64 tt,.slice none 0 0] 76);have kM0:=blk_alloc (blk_new w #[.string x,.int .i64 ty,.int .i64 tt,.slice va ds.length vc] 76) (.cells #[.string ⟨#[]⟩,.int .i64 0,.int .i64 0,.slice none 0 0] 76);have kM:=blk_alloc kM0 (.cells #[.string x,.int .i64 ty,.int .i64 tt,.slice none 0 0] 76);have kZ:=blk_alloc (blk_new (w.alloc (.cells #[.string x,.int .i64 ty,.int .i64 tt,.slice va ds.length vc] 76)) #[.string ⟨#[]⟩,.int .i64 0,.int .i64 0,.slice none 0 0] 76) (.cells #[.string x,.int .i64 ty,.int .i64 tt,.slice none 0 0] 76);have kO:=blk_new ((w.alloc (.cells #[.string x,.int .i64 ty,.int .i64 tt,.slice va ds.length vc] 76)).alloc (.cells #[.string ⟨#[]⟩,.int .i64 0,.int .i64 0,.slice none 0 0] 76)) #[.string x,.int .i64 ty,.int .i64 tt,.slice none 0 0] 76;rw [World.size_alloc] at kZ;rw [World.size_alloc,World.size_alloc] at kO;have S3:Csp w _ w.heap.size x ty tt (.slice va ds.length vc) (.slice none 0 0) 0 []:=⟨kO,kM,kZ,World.ownsRow_nil _ _ _ _,hB2⟩;have hd:=fun W (hW:Below w.heap.size w W)=>h.below hW
 have rr:=fun i=>blk_cell kM0 i
 clear h kM kZ kO hB0 hB1 hB2;go_enter Tryz.func91,Tryz.ntmps91;go_wp2_with fail
 clear rr kM0;generalize hgg:w.heap.size=g at*;have HGG:=Nm.hide hgg;clear hgg
 go_loopw [4] (fun i wr=>∃ (k:Nat) (qx:Option Addr) (qy:Nat),k<=ds.length∧i=.int .i64 k∧g<=wr.heap.size∧Csp w wr g x ty tt (.slice va ds.length vc) (.slice qx k qy) k (ds.take k)) (fun i _=>ds.length-(intOf i).toNat)
 case atStart=>exact⟨0,none,0,Nat.zero_le _,rfl,by have:=HGG.out;simp;omega,S3⟩
 case round=>
  clear S3;obtain⟨k,qx,qy,hk,rfl,hgw,Sk⟩:=hrel;have ccM:=fun i=>blk_cell Sk.mb i
  have ccO:=fun i=>blk_cell Sk.ob i
  by_cases hlt:k<ds.length
  ·obtain⟨y,hyk⟩:∃ y,ds[k]? =some y:=⟨_,List.getElem?_eq_getElem hlt⟩;obtain⟨a9,c9,e9,_,_,_,hc9⟩:=hd wr Sk.be;simp only [Value.slice.injEq] at e9;obtain⟨rfl,_,rfl⟩:=e9;obtain⟨b,off,rfl,hcell⟩:=hc9 (by intro e;rw [e] at hlt;simp at hlt);have d0:=hcell k y hyk;have n1:(0:Int)<=(k:Int):=by omega
   have n2:(k:Int)<(ds.length:Int):=by omega
   have e5:ds.take (k+1)=ds.take k++[y]:=by
    obtain⟨hi,e⟩:=List.getElem?_eq_some_iff.1 hyk;rw [List.take_succ_eq_append_getElem hi,e]
   have HE5:=Nm.hide e5;have HYK:=Nm.hide hyk;clear e5 hc9 hcell hyk;go_wp2;refine wp_region_last (fun W=>Blk W (g+1+1) #[.string x,.int .i64 ty,.int .i64 tt,.slice qx k qy] 76∧Blk W g #[.string x,.int .i64 ty,.int .i64 tt,.slice (some ⟨b,off,none⟩) ds.length vc] 76∧W.cell? ⟨b,off+k,none⟩=some (.string y)) 10 (by kernel_rfl) ⟨Sk.ob,Sk.mb,d0⟩ (fun hHeld=>?_);refine tkL (i:=0) (v:=?_) rfl ?_ ?_;rotate_left 1
   ·(rintro W ⟨s1,s2,s3⟩;have ss1:=(fun i=>blk_cell s1 i);have ss2:=(fun i=>blk_cell s2 i);go_simp;first|done|rfl)
   refine tkL (i:=1) (v:=?_) rfl ?_ ?_;rotate_left 1
   ·(rintro W ⟨s1,s2,s3⟩;have ss1:=(fun i=>blk_cell s1 i);have ss2:=(fun i=>blk_cell s2 i);go_simp;first|done|rfl)
   refine tkL (i:=2) (v:=?_) rfl ?_ ?_;rotate_left 1
   ·(rintro W ⟨s1,s2,s3⟩;have ss1:=(fun i=>blk_cell s1 i);have ss2:=(fun i=>blk_cell s2 i);go_simp;first|done|rfl)
   refine tkL (i:=3) (v:=?_) rfl ?_ ?_;rotate_left 1
   ·(rintro W ⟨s1,s2,s3⟩;have ss1:=(fun i=>blk_cell s1 i);have ss2:=(fun i=>blk_cell s2 i);go_simp;first|done|rfl)
   refine tkL (i:=4) (v:=?_) rfl ?_ ?_;rotate_left 1
   ·(rintro W ⟨s1,s2,s3⟩;have ss1:=(fun i=>blk_cell s1 i);have ss2:=(fun i=>blk_cell s2 i);go_simp;first|done|rfl)
   refine tkL (i:=5) (v:=?_) rfl ?_ ?_;rotate_left 1
   ·(rintro W ⟨s1,s2,s3⟩;have ss1:=(fun i=>blk_cell s1 i);have ss2:=(fun i=>blk_cell s2 i);go_simp;first|done|rfl)
   refine tkL (i:=6) (v:=?_) rfl ?_ ?_;rotate_left 1
   ·(rintro W ⟨s1,s2,s3⟩;have ss1:=(fun i=>blk_cell s1 i);have ss2:=(fun i=>blk_cell s2 i);go_simp;first|done|rfl)
   have hbA:=((Below.refl wr.heap.size wr).alloc (Nat.le_refl _) (.cells #[.string y] 9)).drew;have SA:=Sk.below hbA hgw;have e0:(wr.alloc (.cells #[.string y] 9)).drew.cell? ⟨b,off+k,none⟩=some (.string y):=(hbA.cell (World.block_lt_of_cell? wr _ d0)).trans d0;have hoA:=SA.own;refine wpAnyL_one (i:=7) (by kernel_rfl) rfl (fun K hK=>?_);go_simp;refine hK.out _ _ ⟨SA.ob,SA.mb,e0⟩ (fun hH2=>?_);clear hK K;refine wpAnyL_one (i:=8) (by kernel_rfl) rfl (fun K hK=>?_);refine step_append_own rfl (.tmp 20) (.tmp 26) 52 rfl g 9 j0 (.string ByteArray.empty) 1 16 Tryz.underlying52 hj k0 k1 k2 rfl (by decide) (.slice qx k qy) k ((ds.take k).map Value.string) (by rfl) hoA ⟨wr.heap.size,0,none⟩ 1 1 [.string y] (by rfl) rfl (cell_newV _ #[.string y] _) (by intro u hu;simp at hu;subst hu;rfl) (by unfold maxLen;omega) (by omega) (by simp;omega) ?_;intro va' wa hown9 hgrow9 hnl9;clear hnl9;obtain⟨xb,yb,hvb⟩:=own_sl hown9;subst hvb;obtain⟨ob9,mb9,zb9,be9⟩:=SA.grow hgrow9 (by simp;omega);obtain⟨a8,c8,e8,_,_,_,hc8⟩:=hd wa be9;simp only [Value.slice.injEq] at e8;obtain⟨rfl,_,rfl⟩:=e8;obtain⟨b8,off8,e7,hcell8⟩:=hc8 (by intro e;rw [e] at hlt;simp at hlt);simp only [Option.some.injEq,Addr.mk.injEq,and_true] at e7;obtain⟨rfl,rfl⟩:=e7;have f0:=hcell8 k y HYK.out;refine hK.out _ _ ⟨ob9,mb9,f0⟩ (fun hH3=>?_);clear hK K;refine tkL (i:=9) (v:=?_) rfl ?_ ?_;rotate_left 1
   ·(rintro W ⟨s1,s2,s3⟩;have ss1:=(fun i=>blk_cell s1 i);have ss2:=(fun i=>blk_cell s2 i);go_simp;first|done|rfl)
   have g9:=fun i=>blk_cell ob9 i
   have h9:=fun i=>blk_frozen ob9 i
   refine wpAnyL_end (by kernel_rfl) rfl (by kernel_rfl) (fun K hK=>?_);go_simp;refine hK.out _ _ ?_;clear hK K
   have hrow9:wa.ownsRow g 9 1 (.slice xb (k+1) yb) (k+1) ((ds.take (k+1)).map Value.string):=by
    rw [HE5.out,List.map_append];exact hown9
   have S9:Csp w (wa.setCell ⟨g+1+1,3,none⟩ (.slice xb (k+1) yb)) g x ty tt (.slice (some ⟨b,off,none⟩) ds.length vc) (.slice xb (k+1) yb) (k+1) (ds.take (k+1)):=
    ⟨blk_set ob9 3 _,blk_far mb9 (by omega),blk_far zb9 (by omega),own_far hrow9 (own_nb hrow9 ob9 (by decide)),be9.setCell (Nat.le_add_right g 2) _⟩
   have HS9:=Nm.hide S9;have HK9:Hid (k+1<=ds.length):=hlt
   have HG9:Hid (g<=(wa.setCell ⟨g+1+1,3,none⟩ (.slice xb (k+1) yb)).heap.size):=by
    show _<=_
    have h1:=hgrow9.size;simp at h1 ⊢;omega
   clear S9 hrow9 ob9 mb9 zb9 be9 SA Sk hown9 hgrow9 hoA e0 hbA f0 d0 g9 h9 hH3 hH2 hHeld ccM ccO hcell8 hc8;go_wp2;go_roundw
   case rel=>exact⟨k+1,xb,yb,HK9.out,by go_num,HG9.out,HS9.out⟩
   case measure=>simp [intOf];omega
  ·obtain rfl:k=ds.length:=by omega
   rw [List.take_length] at Sk;have i9:(ds.length:Int)<=(ds.length:Int):=by omega
   have cz:=fun i=>blk_cell Sk.zb i
   have fz:=fun i=>blk_frozen Sk.zb i
   have k4:=blk_set (blk_set (blk_set (blk_set Sk.zb 0 (.string x)) 1 (.int .i64 ty)) 2 (.int .i64 tt)) 3 (.slice qx ds.length qy);simp only [List.setIfInBounds_toArray,List.set_cons_zero,List.set_cons_succ] at k4;have hne:=own_nb Sk.own Sk.zb (by decide);have ho4:=own_far (y:=.slice qx ds.length qy) (i:=3) (g:=g+1) (own_far (y:=.int .i64 tt) (i:=2) (g:=g+1) (own_far (y:=.int .i64 ty) (i:=1) (g:=g+1) (own_far (y:=.string x) (i:=0) (g:=g+1) Sk.own hne) hne) hne) hne;have hlb:g<=g+1:=Nat.le_succ g;have bw4:=(((Sk.be.setCell (p:=⟨g+1,0,none⟩) hlb (.string x)).setCell (p:=⟨g+1,1,none⟩) hlb (.int .i64 ty)).setCell (p:=⟨g+1,2,none⟩) hlb (.int .i64 tt)).setCell (p:=⟨g+1,3,none⟩) hlb (.slice qx ds.length qy);have rk:=fun i=>blk_cell k4 i
   clear hd k4 hne Sk;go_wp2_with fail
   refine bodyPost_ret (v:=.agg #[.string x,.int .i64 ty,.int .i64 tt,.slice qx ds.length qy]) ?_ rfl ⟨_,rfl,by rw [HGG.out];exact ho4,by rw [HGG.out];exact bw4⟩;simp [results,Tryz.f91,go_sem,rk]
theorem nds_next{ps:List Zp}{name:ByteArray}{j:Nat}{q:Zp}(hq:ps[j]? =some q):ndsZ ((ps.take (j+1)).map (·.1)) name=ndsZ ((ps.take j).map (·.1)) name++(if sameS q.1.own name=true then [q.1] else []):=by
 rw [Nm.take_step hq,List.map_append,ndsZ,ndsZ,List.filter_append];congr 1;simp only [List.map_cons,List.map_nil,List.filter_cons,List.filter_nil]
theorem zow_bel{W wr w1:World}{v:Value}{B e s n:Nat}{l:List Value}(hB:B<=wr.heap.size)
 (hown:wr.ownsRow B e s v n l) (hbel:Below B W wr) (o:Obj) (hgrow:(wr.alloc o).grownBy w1 v.ownBlock):Below B W w1:=by
 refine(hbel.alloc hB o).grown hgrow (by simp;omega) ?_;intro k hk;exact(hown.lt k hk).1
set_option maxRecDepth 100000 in
set_option maxHeartbeats 1600000 in
theorem l07NodeSets_any(o name:ByteArray)(v:Value)(ps:List Zp)(w:World)(h:ZRow w v ps)(hl:ps.length<=1048576)(hf:∀ p∈ps,p.1.own.size<=1048576∧p.1.da.length<=1048576)(hn:name.size<=maxLen):
 Calls Tryz.prog 43 #[.agg #[.string o,v],.string name] w fun e w'=>∃ u qs,e=.returned u∧qs.map (·.1)=ndsZ (ps.map (·.1)) name∧ZOwn w' w.heap.size u qs∧Below w.heap.size w w':=by
 obtain⟨va,vc,rfl⟩:∃ va vc,v=.slice va ps.length vc:=by obtain⟨⟨_,a,c,e,_⟩,_⟩:=h;exact⟨a,c,e⟩
 obtain⟨i0,hi,hz0,hz1,hz2⟩:=info_parts Tryz.infoSet;have b0:=(Below.refl w.heap.size w).alloc (Nat.le_refl _) (.cells #[.string o,.slice va ps.length vc] 32);have k0:=blk_new w #[.string o,.slice va ps.length vc] 32;have HSm:=Nm.hide (fun(x:ByteArray) (hx:x.size<=1048576) W=>specSameName_any x name W (by unfold maxLen;omega) hn);have HZ:=Nm.hide (fun W (hW:Below w.heap.size w W)=>h.below hW);have HF:=Nm.hide hf;have HG:Hid (∀ W,Below w.heap.size w W->w.heap.size<=W.heap.size):=fun W hW=>hW.size
 have o0:=World.ownsRow_made (base:=w.heap.size) (e:=76) (size:=4) (w.alloc (.cells #[.string o,.slice va ps.length vc] 32)) #[] 0 b0.size (by decide) rfl;rw [World.size_alloc] at o0;have b1:=b0.alloc b0.size (.cells #[] 76);have k1:=blk_alloc k0 (.cells #[] 76);obtain⟨R,hR⟩:∃ R,R=ndsZ (ps.map (·.1)) name:=⟨_,rfl⟩;rw [<- hR];have HR:=Nm.hide hR;clear h hf hR b0 k0;go_enter Tryz.func43,Tryz.ntmps43;go_wp2;generalize hgg:w.heap.size=g at*;have HGG:=Nm.hide hgg;clear hgg
 go_loopw [5,6] (fun v i wr=>∃ (j:Nat) (qs:List Zp),j<=ps.length∧i=.int .i64 j∧Hid (qs.length<=j)∧Hid (qs.map (·.1)=ndsZ ((ps.take j).map (·.1)) name)∧ZOwn wr g v qs∧Below g w wr∧Blk wr g #[.string o,.slice va ps.length vc] 32) (fun _ i _=>ps.length-(intOf i).toNat)
 case atStart=>exact⟨0,[],Nat.zero_le _,rfl,Nat.le_refl _,rfl,⟨o0,by simp,by simp⟩,b1,k1⟩
 case round=>
  clear b1 k1 o0;obtain⟨j,qs,hj,rfl,HL,HT,zo,hb,kz⟩:=hrel;have rz:=fun i=>blk_cell kz i
  have hgw:=HG.out _ hb;obtain⟨oa,oc,rfl⟩:=own_sl zo.outer
  by_cases hlt:j<ps.length
  ·obtain⟨q,hq⟩:∃ q,ps[j]? =some q:=⟨_,List.getElem?_eq_getElem hlt⟩;obtain⟨⟨_,a9,c9,e9,_,_,hc9⟩,hd9⟩:=HZ.out _ hb;simp only [Value.slice.injEq] at e9;obtain⟨rfl,_,rfl⟩:=e9;obtain⟨b,off,rfl,hcell⟩:=hc9 (by omega);obtain⟨d0,d1,d2,d3⟩:=zp_cells hcell hq;have hfq:=HF.out q (List.mem_of_getElem? hq);have hsm:=HSm.out q.1.own hfq.1 wr;have HSR:=Nm.hide (hd9 q (List.mem_of_getElem? hq));have n1:(0:Int)<=(j:Int):=by omega
   have n2:(j:Int)<(ps.length:Int):=by omega
   have HNX:Hid (ndsZ ((ps.take (j+1)).map (·.1)) name=qs.map (·.1)++(if sameS q.1.own name=true then [q.1] else [])):=by show _=_;rw [nds_next hq,HT.out]
   clear hc9 hd9 hcell hq;obtain⟨⟨x,ty,tt,ds⟩,u⟩:=q;simp only at d0 d1 d2 d3 hsm HNX HSR hfq
   obtain⟨ua,uc,hu⟩:∃ ua uc,u=.slice ua ds.length uc:=by obtain⟨a,c,e,_⟩:=HSR.out;exact⟨a,c,e⟩
   subst hu
   cases hsb:sameS x name with
   |true=>
    rw [hsb] at hsm HNX;simp only [if_true] at HNX;clear hsb HT;go_wp2_with fail
    refine hsm.mono ?_;rintro e w1 ⟨rfl,b1⟩;have kz1:=blk_below kz b1;have rz1:=fun i=>blk_cell kz1 i
    have up:=fun {O:Nat} {z:Value} (hz:wr.cell? ⟨b,O,none⟩=some z)=>(b1.cell (World.block_lt_of_cell? wr _ hz)).trans hz
    have f0:=up d0;have f1:=up d1;have f2:=up d2;have f3:=up d3;have z1:=zo.below b1;have bw1:=hb.trans (b1.mono hgw);have hgw1:=HG.out _ bw1;have hcs:=l06CopySet_any ⟨x,ty,tt,ds⟩ (.slice ua ds.length uc) w1 (HSR.out.below b1) (by simp only;omega);clear up d0 d1 d2 d3 rz kz hb zo hsm b1;go_wp2_with fail
    refine hcs.mono ?_;rintro e w2 ⟨cu,rfl,hcu,b2⟩;obtain⟨ca,cc,rfl⟩:=own_sl hcu;have kz2:=blk_below kz1 b2;have z2:=z1.below b2;have bw2:=bw1.trans (b2.mono hgw1);have hgw2:=HG.out _ bw2
    have hap:∀ p∈qs,∀ g',p.2.ownBlock=some g'->(Value.slice ca ds.length cc).ownBlock≠some g':=fun p hp g' e e'=>by
     obtain⟨i,hi⟩:=List.getElem?_of_mem hp;have h8:=((z1.inner i p hi).lt g' e).2;have h9:=(hcu.lt g' e').1;omega
    have HU:=Nm.hide (And.intro (own_base hcu hgw1) hap);have zout:=z2.outer;have hqm:qs.length<=1048576:=by have:=HL.out;omega
    clear hcs rz1 f0 f1 f2 f3 hap hcu b2 z1 kz1 bw1 hgw1;go_wp2_with (at_builtin;refine wpList_append_own _ rfl (.tmp 23) (.tmp 30) 26 rfl g 76 i0 (.agg #[.string ByteArray.empty,.int .i64 0,.int .i64 0,.slice none 0 0]) 4 56 Tryz.underlying26 hi hz0 hz1 hz2 rfl (by decide) _ _ _ rfl (zout.alloc _) ⟨w2.heap.size,0,none⟩ 1 1 [.string x,.int .i64 ty,.int .i64 tt,.slice ca ds.length cc] rfl rfl (cell_newV w2 #[.string x,.int .i64 ty,.int .i64 tt,.slice ca ds.length cc] 76) (by intro u hu;simp at hu;rcases hu with rfl|rfl|rfl|rfl<;>rfl) (by unfold maxLen;omega) (by omega) (by simp;omega) ?_)
    intro v' w6 hown6 hgrow _;have ca6:=(Below.refl w2.heap.size w2).alloc (Nat.le_refl _) (.cells #[.string x,.int .i64 ty,.int .i64 tt,.slice ca ds.length cc] 76);have z6:=ZOwn.snoc (s:=⟨x,ty,tt,ds⟩) (u:=.slice ca ds.length cc) (z2.below ca6) (own_below HU.out.1 ca6) HU.out.2 hown6 hgrow;have hb6:=zow_bel hgw2 zout bw2 _ hgrow;have kz6:=blk_grown (blk_alloc kz2 _) hgrow (own_nb zout kz2 (by decide));have HT6:Hid ((qs++[((⟨x,ty,tt,ds⟩:Sz),Value.slice ca ds.length cc)]).map (·.1)=ndsZ ((ps.take (j+1)).map (·.1)) name):=by show _=_;rw [HNX.out];simp
    have HL6:Hid ((qs++[((⟨x,ty,tt,ds⟩:Sz),Value.slice ca ds.length cc)]).length<=j+1):=by show _<=_;have:=HL.out;simp;omega
    clear hgrow zout kz2 bw2 z2 HNX hown6 ca6;go_wp2;go_roundw
    case rel=>exact⟨j+1,_,hlt,by go_num,HL6,HT6,z6,hb6,kz6⟩
    case measure=>simp [intOf];omega
   |false=>
    rw [hsb] at hsm HNX;have HT2:Hid (qs.map (·.1)=ndsZ ((ps.take (j+1)).map (·.1)) name):=by show _=_;rw [HNX.out];simp
    have HL2:Hid (qs.length<=j+1):=Nat.le_succ_of_le HL.out;clear hsb HT HNX;go_wp2_with (go_at_call 90;refine hsm.mono ?_;rintro e w1 ⟨rfl,b1⟩)
    go_roundw
    case rel=>exact⟨j+1,qs,hlt,by go_num,HL2,HT2,zo.below b1,hb.trans (b1.mono hgw),blk_below kz b1⟩
    case measure=>simp [intOf];omega
  ·obtain rfl:j=ps.length:=by omega
   have i9:(ps.length:Int)<=(ps.length:Int):=by omega
   have HE:Hid (qs.map (·.1)=R):=by show _=_;rw [HR.out,HT.out,List.take_length]
   clear HT;go_wp2;go_ret;rw [HGG.out];exact⟨_,qs,rfl,HE.out,zo,hb⟩
end Go.Proofs.YtcodajnebegdiaaGreat
