import Derived.Test.YthdpacepbbcocaaGreatParts
import Derived.Test.YthdpacepbbcocaaGreatJTrD
set_option linter.unusedVariables false
set_option maxRecDepth 100000
set_option maxHeartbeats 1600000
namespace Go.Proofs.YthdpacepbbcocaaGreat
open Go Go.Maps Go.MapKept Go.ChangeMaps
theorem WG{α:Type}{q:α->Bool}:∀ {l:List α} {j:Nat} {a:α},l[j]? =some a->q a=false->(∀ i b,l[i]? =some b->i≠j->q b=true)->l.filter q=l.eraseIdx j
 |[],j,a,h,_,_=>by simp at h
 |x::l,0,a,h,ha,hb=>by
  simp at h;subst h;rw [List.filter_cons,if_neg (by simp [ha]),List.eraseIdx_cons_zero];refine List.filter_eq_self.2 fun b JD=>?_
  obtain⟨i,hi⟩:=List.mem_iff_getElem?.1 JD
  exact hb (i+1) b (by simpa using hi) (by omega)
 |x::l,j+1,a,h,ha,hb=>by
  rw [List.filter_cons,if_pos (hb 0 x rfl (by omega)),List.eraseIdx_cons_succ];rw [WG (l:=l) (j:=j) (a:=a) (by simpa using h) ha (fun i b hi dQ=>hb (i+1) b (by simpa using hi) (by omega))]
theorem Uv{l:List Rr}{j:Nat}{x:Rr}(JY:l.Nodup)(h:l[j]? =some x):l.filter (fun y=> !KU y x)=l.eraseIdx j:=by
 refine WG h (by rw [(xX x x).2 rfl];rfl) fun i b hi dQ=>?_
 cases e:KU b x
 ·rfl
 have hb:=(xX b x).1 e;subst hb;have hl:=(dK hi).1;exact absurd ((List.getElem?_inj hl JY).1 (hi.trans h.symm)) dQ
theorem zU{α β:Type}(f:α->β):∀ (l:List α) (j:Nat),(l.eraseIdx j).map f=(l.map f).eraseIdx j
 |[],_=>by simp
 |_::_,0=>by simp
 |x::l,j+1=>by simp [zU f l j]
section
variable {w:World}{r:Nat}{L:List (Rr×Nat)}{t e:TypeId}
theorem zL.del(h:zL w r L)(ht:Tryz.prog.underlying t=some (.map 29 e)){ty:TypeId}{x:Rr}(hx:xN x)(mK:zK (L.map (·.1)) x=true):
 ∃ w' L',(Builtin.delete_ #[t,29] ty #[.map (some r),ZX x]).run Tryz.prog w=.ok (.tuple #[]) w'∧zL w' r L'∧L'.map (·.1)=(L.map (·.1)).filter (fun y=> !KU y x)∧w.grownBy w' (some r):=by
 have K:=Tx;obtain⟨kl,Ey⟩:=OY hx;have bV:=h.lt;obtain⟨es,clock,hb,Si,hwf,JY⟩:=h;have mK:=(wK _ _).1 mK
 rcases K.find w Ey es.toList (fun y hy=>by obtain⟨p,hp,h1,_⟩:=wL Si hy;rw [h1];exact OY (hwf p hp)) with⟨h1,h2⟩|⟨j,e0,h1,h2,h3⟩
 ·exfalso
  obtain⟨p,hp,hpx⟩:=lS mK;have:rmV p∈L.map rmV:=List.mem_map.2 ⟨p,hp,rfl⟩;rw [<- Si] at this;obtain⟨y,hy,hye⟩:=lS this;simp only [rmV,Prod.mk.injEq] at hye;exact h2 y hy (by rw [hye.1,hpx])
 have LU:j<es.toList.length:=(dK h2).1;have hjs:j<es.size:=by simpa using LU
 have aS1:(es.eraseIdxIfInBounds j).toList=es.toList.eraseIdx j:=by
  unfold Array.eraseIdxIfInBounds;rw [dif_pos hjs];simp
 have hLj:(L.map (·.1))[j]? =some x:=by
  have h4:(es.toList.map (fun e=>(e.key,e.val)))[j]? =some (e0.key,e0.val):=by rw [List.getElem?_map,h2];rfl
  rw [Si,List.getElem?_map] at h4
  cases e5:L[j]? with
  |none=>rw [e5] at h4;cases h4
  |some p=>
   rw [e5] at h4;have h7:rmV p=(e0.key,e0.val):=gQ h4;rw [List.getElem?_map,e5];have h6:ZX p.1=ZX x:=(congrArg Prod.fst h7).trans h3;exact congrArg some (Ex h6)
 refine⟨setBlock w r (.map (es.eraseIdxIfInBounds j) clock),L.eraseIdx j,?_,⟨es.eraseIdxIfInBounds j,clock,?_,?_,?_,?_⟩,?_,LQ _ _ _⟩
 ·simp [Builtin.delete_,run_underlying ht,MapKept.run_getObj_map hb,K.check w _ Ey,h1,MapKept.run_setObj_map _ hb,Result.andThen,setBlock]
 ·simp [setBlock,bV]
 ·rw [aS1,zU,Si,zU]
 ·intro p hp;exact hwf p ((List.eraseIdx_sublist _ _).subset hp)
 ·rw [zU];exact JY.sublist (List.eraseIdx_sublist _ _)
 rw [zU,Uv JY hLj]
end
open Go.RowKit
def heK(xs ds:List Rr):Nat->Bool
 |0=>true
 |n+1=>heK xs ds n&&(match ds[n]? with|some d=>zK (eQ xs (ds.take n)) d|none=>true)
def heB(xs ds:List Rr):Bool:=heK xs ds ds.length
theorem aMs{xs ds:List Rr}{j:Nat}(h:heK xs ds j=false):∀ n,j<=n->heK xs ds n=false:=by
 intro n hn
 induction n with
 |zero=>obtain rfl:j=0:=by omega
        exact h
 |succ n ih=>
  by_cases e:j=n+1
  ·subst e;exact h
  rw [heK,ih (by omega)];rfl
theorem Na{xs ds:List Rr}{j:Nat}{d:Rr}(h:ds[j]? =some d):heK xs ds (j+1)=(heK xs ds j&&zK (eQ xs (ds.take j)) d):=by
 rw [heK,h]
theorem aF9(a b:Rr):KU a b=KU b a:=by
 rw [Bool.eq_iff_iff,xX,xX];exact⟨Eq.symm,Eq.symm⟩
theorem aGa{xs ds:List Rr}{j:Nat}{d:Rr}(h:ds[j]? =some d):eQ xs (ds.take (j+1))=(eQ xs (ds.take j)).filter (fun y=> !KU y d):=by
 rw [eQ,eQ,List.filter_filter,List.take_add_one,h];refine List.filter_congr fun y _=>?_
 simp only [zK,List.any_append,Option.toList_some,List.any_cons,List.any_nil,Bool.or_false,Bool.not_or];rw [aF9 d y,Bool.and_comm]
theorem aJ6(xs:List Rr):eQ xs []=xs:=by
 rw [eQ];exact List.filter_eq_self.2 fun y _=>rfl
theorem aJ7{xs ds:List Rr}:∀ n,n<=ds.length->heK xs ds n=true->(ds.take n).Nodup:=by
 intro n
 induction n with
 |zero=>intro _ _;simp
 |succ n ih=>
  intro hn h;obtain⟨d,hd⟩:∃ d,ds[n]? =some d:=⟨_,bY hn⟩;rw [Na hd,Bool.and_eq_true] at h;rw [List.take_add_one,hd];refine List.nodup_append.2 ⟨ih (by omega) h.1,by simp,?_⟩;intro a ha b hb e;simp at hb;subst hb;subst e;have h2:=(wK _ _).1 h.2;rw [eQ,List.mem_filter,(wK _ _).2 ha] at h2;cases h2.2
theorem aGb{xs ds:List Rr}(h:heB xs ds=true):ds.Nodup:=by
 have:=aJ7 ds.length (aN _) h
 rwa [List.take_length] at this
theorem Nb(v u:Value)(xs ys:List Rr)(w:World)(h:bS w v xs.length 5 (bK xs))(h':bS w u ys.length 5 (bK ys))(hf:∀ x∈xs,xN x)(hf':∀ x∈ys,xN x)(JY:xs.Nodup)(hn:xs.length<=1000000)(hn':ys.length<=1000000):
 Calls Tryz.prog 45 #[v,u] w fun e w'=>e=.returned (.bool (heB xs ys))∧Below w.heap.size w w':=by
 have pG:=VF v xs w h hf JY hn;obtain⟨_,a,cap,rfl,gY,kK,hc⟩:=h';have HC:=Nm.aF hc;have HF:=Nm.aF hf';clear hc hf hf' JY h;go_enter Tryz.func45,Tryz.ntmps45;go_wp2_with (go_at_call 83;refine pG.mono ?_;rintro e w1 ⟨r,L0,rfl,hr,hm0,hL0,fF⟩)
 have HL0:=Nm.aF hL0;clear hL0 pG
 go_loopw [7,8,9,14] (fun _ _ _ i wr=>∃ (j:Nat) (L:List (Rr×Nat)),j<=ys.length∧i=.int .i64 (j:Int)∧zL wr r L∧Hid (L.map (·.1)=eQ xs (ys.take j))∧Hid (heK xs ys j=true)∧Below w.heap.size w wr) (fun _ _ _ i _=>ys.length-(intOf i).toNat)
 case atStart=>exact⟨0,L0,dO _,rfl,hm0,HL0.out.trans (aJ6 xs).symm,rfl,fF⟩
 obtain⟨j,L,hj,rfl,hm,HL,HK,hb⟩:=hrel;have pQ:=hb.size;clear hm0 HL0 fF
 by_cases bV:j<ys.length
 ·obtain⟨x,hx⟩:∃ x,ys[j]? =some x:=⟨_,bY bV⟩;obtain⟨b,off,rfl,aL⟩:=HC.out (by omega);have put:∀ {i:Nat} {z:Value},w.cell? ⟨b,off+i,none⟩=some z->wr.cell? ⟨b,off+i,none⟩=some z:=fun h=>(hb.cell (eB w _ h)).trans h
  obtain⟨c0,c1,c2,c3,c4⟩:=gT (fun i y hy=>put (aL i y hy)) hx;have Cm:zL (wr.alloc (.cells #[.string x.own,.int .i64 x.ty,.int .i64 x.cl,.int .i64 x.tt,.string x.da] 29)) r L:=hm.kept (heap_alloc_old _ _ hm.lt);have IP:=HF.out x (bP hx);obtain⟨n,xO⟩:=Cm.get Tryz.underlying129 (aAm _) IP;have i1:(0:Int)<=(j:Int):=by omega
  have i2:(j:Int)<(ys.length:Int):=by omega
  have hbA:=hb.alloc pQ (.cells #[.string x.own,.int .i64 x.ty,.int .i64 x.cl,.int .i64 x.tt,.string x.da] 29);have HS:=Nm.aF (Na (xs:=xs) hx);have HW:=Nm.aF (aGa (xs:=xs) hx)
  cases hh:zK (L.map (·.1)) x with
  |true=>
   rw [hh] at xO;obtain⟨w2,L2,JZ,hm2,hL2,oN⟩:=Cm.del Tryz.underlying129 (ty:=0) IP hh;have HL2:Hid (L2.map (·.1)=eQ xs (ys.take (j+1))):=by show _=_;rw [hL2,HW.out,HL.out]
   have HK2:Hid (heK xs ys (j+1)=true):=by show _=_;rw [HS.out,HK.out,<- HL.out,hh];rfl
   have iE:Below w.heap.size w w2:=hbA.grown oN (by simp;omega) (fun k hk=>by cases hk;exact hr);clear put aL Cm hx hh hL2 HL HK HS HW oN hm;go_wp2;go_roundw
   case rel=>exact⟨j+1,L2,by omega,by go_num,hm2,HL2,HK2,iE⟩
   simp [intOf];omega
  |false=>
   rw [hh] at xO;have HN:Hid (heB xs ys=false):=by show _=_;exact aMs (by rw [HS.out,HK.out,<- HL.out,hh];rfl) _ (by omega)
   clear put aL Cm hx hh HL HK HS HW hm;go_wp2;go_ret;rw [HN.out];exact⟨rfl,hbA⟩
 have KA:j=ys.length:=by omega
 subst KA;have HN:Hid (heB xs ys=true):=HK;clear HL HK;go_wp2;go_ret;rw [HN.out];exact⟨rfl,hb⟩
theorem aCn{f:ByteArray}(h1:f.size<=100)(h2:f.data.toList.all (fun c=>c==110||c==98||c==116||c==115||c==99||c==109||c==42)=true):Uf f:=by
 refine⟨h1,?_⟩;intro k hk;have:=List.all_eq_true.1 h2 f[k] (bP (Nm.iZ hk));simpa [or_assoc] using this
theorem UC(t:Int):Uf (Dt.mY t):=by
 unfold Dt.mY
 repeat' split
 all_goals exact aCn (by decide) (by decide)
theorem Uw{t:Int}{d:ByteArray}:(Dt.parts (Dt.pV t) d).isSome=(Dt.spans (Dt.lM t) 0 d).isSome:=by
 rw [<- Dt.uF,Dt.nN];simp
theorem nC(t:Int)(d:ByteArray)(w:World):
 Calls Tryz.prog 74 #[.int .i64 t,.string d] w fun e w'=>e=.returned (.int .i64 (bQ t d))∧Below w.heap.size w w':=by
 by_cases ht:t<0∨65535<t
 ·have HC:=Nm.aF (GQ (d:=d) ht)
  by_cases ht0:t<0
  ·clear ht;go_enter Tryz.func74,Tryz.ntmps74;go_wp2;go_ret;rw [HC.out.1];exact⟨rfl,aK _ _⟩
  have ht1:65535<t:=by omega
  have ht2:0<=t:=by omega
  clear ht;go_enter Tryz.func74,Tryz.ntmps74;go_wp2;go_ret;rw [HC.out.1];exact⟨rfl,aK _ _⟩
 have ht0:0<=t:=by omega
 have ht1:t<=65535:=by omega
 by_cases hl:65535<d.size
 ·have HC:=Nm.aF (GR ht hl);have Es:(65535:Int)<(d.size:Int):=by omega
  clear ht;go_enter Tryz.func74,Tryz.ntmps74;go_wp2;go_ret;rw [HC.out.1];exact⟨rfl,aK _ _⟩
 have Es:(d.size:Int)<=65535:=by omega
 have aX:=fun w=>MG (Dt.mY t) d w (UC t) (by omega)
 have EZ:=EO t;have RI:=Uw (t:=t) (d:=d);rw [Dt.pV] at RI;rw [RI] at aX;generalize Dt.mY t=f at*
 cases hq:Dt.spans (Dt.lM t) 0 d with
 |none=>
  have HC:=Nm.aF (PH ht hl hq);rw [hq] at aX;clear ht hl hq RI;go_enter Tryz.func74,Tryz.ntmps74;go_wp2_with (first|(go_at_call 98;refine(EZ _).mono ?_;rintro e w1 ⟨rfl,hw⟩;obtain rfl:w=w1:=hw.symm;clear hw)|(go_at_call 99;refine(aX _).mono ?_;rintro e w2 ⟨v,rfl,_,aJ⟩))
  go_ret;rw [HC.out.1]
  exact⟨rfl,aJ⟩
 |some sp=>
  have HC:=Nm.aF (GU ht hl hq);rw [hq] at aX;clear ht hl hq RI;go_enter Tryz.func74,Tryz.ntmps74;go_wp2_with (first|(go_at_call 98;refine(EZ _).mono ?_;rintro e w1 ⟨rfl,hw⟩;obtain rfl:w=w1:=hw.symm;clear hw)|(go_at_call 99;refine(aX _).mono ?_;rintro e w2 ⟨v,rfl,_,aJ⟩))
  go_ret;rw [HC.out.1];exact⟨rfl,aJ⟩
def mV(r:Rr)(aM:ByteArray):Int:=
 if(Nm.split r.own).isSome=false then 1 else if r.cl≠1 then 19 else if(decide (0<=r.tt)&&decide (r.tt<=2147483647))=false then 18
 else if mE r.ty=true∨r.ty<0∨65535<r.ty then 6 else if bQ r.ty r.da≠0 then 7 else if fT r.own aM=false then 22 else 0
theorem Ux(r:Rr)(aM:ByteArray)(w:World)(ho:r.own.size<=maxLen)(ha:aM.size<=maxLen):
 Calls Tryz.prog 61 #[.agg #[.string r.own,.int .i64 r.ty,.int .i64 r.cl,.int .i64 r.tt,.string r.da],.string aM] w fun e w'=>e=.returned (.int .i64 (mV r aM))∧Below w.heap.size w w':=by
 have jF:=(aK w.heap.size w).alloc (aN _) (.cells #[.string r.own,.int .i64 r.ty,.int .i64 r.cl,.int .i64 r.tt,.string r.da] 29);have hR0:=RB.new w r 29;have h1:=fun W=>ER r.own W ho
 have h2:=fun W=>GK r.tt 2147483647 W
 have h3:=fun W=>Mi r.ty W
 have h4:=fun W=>nC r.ty r.da W
 have h5:=fun W=>CL r.own aM W ho ha
 have JH:=fun(W:World) (hb:Below (w.alloc (.cells #[.string r.own,.int .i64 r.ty,.int .i64 r.cl,.int .i64 r.tt,.string r.da] 29)).heap.size (w.alloc (.cells #[.string r.own,.int .i64 r.ty,.int .i64 r.cl,.int .i64 r.tt,.string r.da] 29)) W)=>(aV (hR0.below hb) (Nm.aC jF hb))
 obtain⟨Q,hQ⟩:∃ Q,Q=mV r aM:=⟨_,rfl⟩;rw [<- hQ];unfold mV at hQ;generalize bQ r.ty r.da=CC at*;generalize fT r.own aM=IU at*;generalize (Nm.split r.own).isSome=SO at*;generalize (decide (0<=r.tt)&&decide (r.tt<=2147483647))=TT at*;have hmb:∀ b,mE r.ty=b->True:=fun _ _=>trivial
 generalize mE r.ty=MB at*;clear hmb;obtain⟨o,ty,cl,tt,da⟩:=r;simp only [RB] at*;obtain⟨c0,c1,c2,c3,c4⟩:=hR0;cases SO
 ·simp only [if_true] at hQ;subst hQ;clear h2 h3 h4 h5;go_enter Tryz.func61,Tryz.ntmps61;go_wp2_with fail
  refine(h1 _).mono ?_;rintro e w1 ⟨rfl,b1⟩;go_wp2;go_ret;exact⟨rfl,Nm.aC jF b1⟩
 simp only [Bool.true_eq_false,if_false] at hQ
 by_cases xW:cl=1
 ·rw [if_neg (by simpa using xW)] at hQ;subst xW;have ncl:((1:Int) != 1)=false:=rfl;cases TT
  ·simp only [if_true] at hQ;subst hQ;clear h3 h4 h5;go_enter Tryz.func61,Tryz.ntmps61;go_wp2_with fail
   refine(h1 _).mono ?_;rintro e w1 ⟨rfl,b1⟩;obtain⟨⟨d0,d1,d2,d3,d4⟩,e1⟩:=JH w1 b1;clear c0 c1 c2 c3 c4;go_wp2_with fail
   refine(h2 _).mono ?_;rintro e w2 ⟨rfl,rfl⟩;go_wp2;go_ret;exact⟨rfl,e1⟩
  simp only [Bool.true_eq_false,if_false] at hQ
  by_cases hm:MB=true∨ty<0∨65535<ty
  ·rw [if_pos hm] at hQ;subst hQ;clear h4 h5
   cases MB with
   |true=>
    go_enter Tryz.func61,Tryz.ntmps61;go_wp2_with fail
    refine(h1 _).mono ?_;rintro e w1 ⟨rfl,b1⟩;obtain⟨⟨d0,d1,d2,d3,d4⟩,e1⟩:=JH w1 b1;clear c0 c1 c2 c3 c4;go_wp2_with fail
    refine(h2 _).mono ?_;rintro e w2 ⟨rfl,rfl⟩;go_wp2_with fail
    refine(h3 _).mono ?_;rintro e w3 ⟨rfl,rfl⟩;go_wp2;go_ret
    exact⟨rfl,e1⟩
   |false=>
    by_cases CY:ty<0
    ·have n0:decide (ty<0)=true:=nD CY;go_enter Tryz.func61,Tryz.ntmps61;go_wp2_with fail
     refine(h1 _).mono ?_;rintro e w1 ⟨rfl,b1⟩;obtain⟨⟨d0,d1,d2,d3,d4⟩,e1⟩:=JH w1 b1;clear c0 c1 c2 c3 c4;go_wp2_with fail
     refine(h2 _).mono ?_;rintro e w2 ⟨rfl,rfl⟩;go_wp2_with fail
     refine(h3 _).mono ?_;rintro e w3 ⟨rfl,rfl⟩;go_wp2;go_ret;exact⟨rfl,e1⟩
    have WH:65535<ty:=by
     rcases hm with h|h|h;· cases h
     ·omega
     exact h
    have n0:decide (ty<0)=false:=jU CY;have n1:decide (65535<ty)=true:=nD WH;go_enter Tryz.func61,Tryz.ntmps61;go_wp2_with fail
    refine(h1 _).mono ?_;rintro e w1 ⟨rfl,b1⟩;obtain⟨⟨d0,d1,d2,d3,d4⟩,e1⟩:=JH w1 b1;clear c0 c1 c2 c3 c4;go_wp2_with fail
    refine(h2 _).mono ?_;rintro e w2 ⟨rfl,rfl⟩;go_wp2_with fail
    refine(h3 _).mono ?_;rintro e w3 ⟨rfl,rfl⟩;go_wp2;go_ret;exact⟨rfl,e1⟩
  rw [if_neg hm] at hQ
  obtain⟨rfl,CY,WH⟩:MB=false∧0<=ty∧ty<=65535:=by
   refine⟨?_,?_,?_⟩
   ·cases MB with
    |true=>exact absurd (Or.inl rfl) hm
    |false=>rfl
   ·exact Int.not_lt.1 (fun h=>hm (.inr (.inl h)))
   exact Int.not_lt.1 (fun h=>hm (.inr (.inr h)))
  by_cases hc:CC=0
  ·rw [if_neg (by simpa using hc)] at hQ;subst hc;cases IU
   ·simp only [if_true] at hQ;subst hQ;go_enter Tryz.func61,Tryz.ntmps61;go_wp2_with fail
    refine(h1 _).mono ?_;rintro e w1 ⟨rfl,b1⟩;obtain⟨⟨d0,d1,d2,d3,d4⟩,e1⟩:=JH w1 b1;clear c0 c1 c2 c3 c4;go_wp2_with fail
    refine(h2 _).mono ?_;rintro e w2 ⟨rfl,rfl⟩;go_wp2_with fail
    refine(h3 _).mono ?_;rintro e w3 ⟨rfl,rfl⟩;go_wp2_with fail
    refine(h4 _).mono ?_;rintro e w4 ⟨rfl,b4⟩;obtain⟨⟨g0,g1,g2,g3,g4⟩,e4⟩:=JH w4 (Nm.aC b1 b4);clear d0 d1 d2 d3 d4;go_wp2_with fail
    refine(h5 _).mono ?_;rintro e w5 ⟨rfl,b5⟩;go_wp2;go_ret;exact⟨rfl,Nm.aC e4 b5⟩
   simp only [Bool.true_eq_false,if_false] at hQ;subst hQ;go_enter Tryz.func61,Tryz.ntmps61;go_wp2_with fail
   refine(h1 _).mono ?_;rintro e w1 ⟨rfl,b1⟩;obtain⟨⟨d0,d1,d2,d3,d4⟩,e1⟩:=JH w1 b1;clear c0 c1 c2 c3 c4;go_wp2_with fail
   refine(h2 _).mono ?_;rintro e w2 ⟨rfl,rfl⟩;go_wp2_with fail
   refine(h3 _).mono ?_;rintro e w3 ⟨rfl,rfl⟩;go_wp2_with fail
   refine(h4 _).mono ?_;rintro e w4 ⟨rfl,b4⟩;obtain⟨⟨g0,g1,g2,g3,g4⟩,e4⟩:=JH w4 (Nm.aC b1 b4);clear d0 d1 d2 d3 d4;go_wp2_with fail
   refine(h5 _).mono ?_;rintro e w5 ⟨rfl,b5⟩;go_wp2;go_ret;exact⟨rfl,Nm.aC e4 b5⟩
  rw [if_pos (by simpa using hc)] at hQ;subst hQ;have nc:(CC != 0)=true:=by rw [bne_iff_ne];exact hc
  go_enter Tryz.func61,Tryz.ntmps61;go_wp2_with fail
  refine(h1 _).mono ?_;rintro e w1 ⟨rfl,b1⟩;obtain⟨⟨d0,d1,d2,d3,d4⟩,e1⟩:=JH w1 b1;clear c0 c1 c2 c3 c4;go_wp2_with fail
  refine(h2 _).mono ?_;rintro e w2 ⟨rfl,rfl⟩;go_wp2_with fail
  refine(h3 _).mono ?_;rintro e w3 ⟨rfl,rfl⟩;go_wp2_with fail
  refine(h4 _).mono ?_;rintro e w4 ⟨rfl,b4⟩;go_wp2;go_ret;exact⟨rfl,Nm.aC e1 b4⟩
 rw [if_pos (by simpa using xW)] at hQ;subst hQ;have ncl:(cl != 1)=true:=by rw [bne_iff_ne];exact xW
 clear h2 h3 h4 h5;go_enter Tryz.func61,Tryz.ntmps61;go_wp2_with fail
 refine(h1 _).mono ?_;rintro e w1 ⟨rfl,b1⟩;obtain⟨⟨d0,d1,d2,d3,d4⟩,e1⟩:=JH w1 b1;clear c0 c1 c2 c3 c4;go_wp2;go_ret;exact⟨rfl,e1⟩
theorem Uy{w w1:World}{g gb:Nat}{l:List UInt8}(h:EJ w gb l)(hg:w.grownBy w1 (some g))(dQ:gb≠g):EJ w1 gb l:=by
 intro j c hj;obtain⟨h1,h2⟩:=h j c hj;have bV:=eB w _ h1;have hblk:=hg.block gb bV (fun e=>dQ (by simpa using e));exact⟨(World.cell?_of_block (w:=w) hblk).trans h1,(World.frozen?_of_block (w:=w) hblk).trans h2⟩
theorem aCo{w:World}{gb cap k:Nat}{l:List UInt8}(h:EJ w gb l)(hk:k<=l.length):
 (convert 22 9 (.slice (some ⟨gb,0,none⟩) k cap)).run Tryz.prog w=.ok (.string ⟨(l.take k).toArray⟩) w:=by
 have hl:(l.take k).length=k:=by simp;omega
 have:=run_convert_bytes_back (P:=Tryz.prog) w 22 9 5 ⟨gb,0,none⟩ cap (l.take k) Tryz.underlying22 Tryz.underlying5 Tryz.underlying9 (by
  intro j hj;rw [Nm.addr_add,Nat.zero_add];refine(h j _ ?_).1;rw [List.getElem_take]
  exact bY (by omega))
 rw [hl] at this;exact this
theorem BS{w:World}{g gb i n cap:Nat}{a:Option Addr}{v:Value}(h:Src w g a n cap)(dQ:gb≠g)(iB:n=0∨∀ b off,a=some ⟨b,off,none⟩->b≠gb):Src (w.setCell ⟨gb,i,none⟩ v) g a n cap:=by
 obtain⟨pos,st,h1,h2,h3,h4,h5⟩:=h;refine⟨pos,st,?_,h2,h3,h4,?_⟩
 ·rw [heap_setCell_other w ⟨gb,i,none⟩ g v (fun e=>dQ e.symm)];exact h1
 rcases h5 with h5|⟨b,off,e,hb,hc⟩
 ·exact .inl h5
 rcases iB with h6|h6
 ·exact .inl h6
 refine .inr ⟨b,off,e,hb,fun j hj=>?_⟩;obtain⟨c,iK,mD⟩:=hc j hj;refine⟨c,?_,mD⟩;rw [World.cell?_setCell_other w ⟨gb,i,none⟩ ⟨b,off+j,none⟩ v (by intro h;cases h;exact h6 _ off e rfl)];exact iK
theorem PR{w w1:World}{g gb i:Nat}{v:Value}(h:w.grownBy w1 (some g))(hb:w.heap.size<=gb):w.grownBy (w1.setCell ⟨gb,i,none⟩ v) (some g):=
 zQ h (row:=some gb) ⟨rfl,rfl,rfl,by simp,fun k _ hk=>heap_setCell_other w1 ⟨gb,i,none⟩ k v (fun e=>hk (by simp [e]))⟩ (fun k hk=>by simp at hk;omega)
def WI(v n:Nat):List UInt8:=(List.range n).map fun i=>UInt8.ofNat (v / 2 ^ (8*(n-1-i)))
theorem MM{P:Program}(w:World)(base:Nat)(t ty e:TypeId)(i:TypeInfo)(z:Value)(size bytes:Nat)(ht:P.underlying t=some (.slice e))(hi:P.info? e=some i)(hz:i.zero=some z)
 (Jy:i.size=size) (hby:i.bytes=bytes) (KS:z.cells.size=size) (pQ:0<size)
 (v:Value) (n:Nat) (xs:List Value) (Ty:0<n) (aU:w.ownsRow base e size v n xs)
 (a:Addr) (m c:Nat) (news:List Value) (hl:news.length=m*size) (Cf:∀ j u,news[j]? =some u->w.cell? (a.add j)=some u) (h1:∀ u∈news,u.oneCell'=true)
 (h63:n+m<=maxLen) (UX:(n+m)*bytes<=140737488355328) (Jz:base<=w.heap.size):
 ∃ v' w',(Builtin.append_ #[t,t] ty #[v,.slice (some a) m c]).run P w=.ok v' w'∧w'.ownsRow base e size v' (n+m) (xs++news)∧w'.ownsRow base e size v n xs∧w.grownBy w' v.ownBlock:=by
 subst Jy;subst hby;have hlen:(xs++news).length=(n+m)*i.size:=by rw [nG,aU.1,hl,Nat.add_mul]
 rcases aU.2 with⟨rfl,rfl⟩|⟨g,cap,cur,rfl,ZU,hg,YX,zM,oZ,aGc⟩
 ·omega
 by_cases xZ:n+m<=cap
 ·have Ev:n*i.size+news.length<=cur.size:=by rw [hl,oZ,<- Nat.add_mul];exact Nat.mul_le_mul_right _ xZ
  have hr:=run_append_room (P:=P) w t ty e i ht hi g n cap cur hg a m c news hl Cf h1 xZ Ev
  have wM:(cur.toList.take (n*i.size)++news++cur.toList.drop (n*i.size+news.length)).toArray.size=cap*i.size:=by
   simp only [List.size_toArray,nG,List.length_take,List.length_drop,Array.length_toList];omega
  refine⟨_,_,hr,⟨hlen,.inr ⟨g,cap,_,rfl,ZU,setRow_heap w g cur _ e _ hg,xZ,zM,wM,?_⟩⟩,⟨aU.1,.inr ⟨g,cap,_,rfl,ZU,setRow_heap w g cur _ e _ hg,YX,zM,wM,?_⟩⟩,⟨rfl,rfl,rfl,by simp,fun k _ hk=>setRow_other w g k _ (fun e=>hk (by simp [Value.ownBlock,e]))⟩⟩
  ·rw [aGc,<- hlen];exact List.take_left
  show List.take (n*i.size) (cur.toList.take (n*i.size)++news++cur.toList.drop (n*i.size+news.length))=xs
  rw [aGc,List.append_assoc,<- aU.1];exact List.take_left
 have holds:∀ j u,xs[j]? =some u->w.cell? ((⟨g,0,none⟩:Addr).add j)=some u:=aU.cells (g:=g) rfl;have hr:=run_append_grow (P:=P) w t ty e i z ht hi hz ⟨g,0,none⟩ n cap xs aU.1 holds a m c news hl Cf (by omega) (by simp only [maxLen] at h63;omega) (growslice_fits (by omega) UX);have hge:=grownCap_ge w (n+m) cap e;have aS2:grownCap w (n+m) cap e<=maxLen:=grownCap_le_maxLen w (n+m) cap e h63;have hgb:w.grownBy (w.drew.alloc (.cells (xs.toArray++news.toArray++Builtin.zeroCells z.cells (grownCap w (n+m) cap e-(n+m))) e)) none:=⟨rfl,rfl,rfl,by simp,fun k hk _=>Below.heap_alloc w.drew _ k hk⟩;refine⟨_,_,hr,⟨hlen,.inr ⟨w.heap.size,_,_,rfl,Jz,heap_alloc_new w.drew _,hge,aS2,?_,?_⟩⟩,aU.kept hgb (.inr (by simp [Value.ownBlock])),⟨rfl,rfl,rfl,by simp,fun k hk _=>Below.heap_alloc w.drew _ k hk⟩⟩
 ·simp only [Array.size_append,List.size_toArray,size_zeroCells,KS,aU.1,hl,<- Nat.add_mul];congr 1;omega
 simp only [Array.toList_append,List.append_assoc];rw [<- List.append_assoc,<- hlen];exact List.take_left
