import Derived.Test.YtlddifpnkeafpaaGreatJAls
set_option maxRecDepth 100000
set_option maxHeartbeats 4000000
namespace Go.Proofs.YtlddifpnkeafpaaGreat
open Go.RowKit
theorem Ji(c:UInt8)(w:World):
 Calls Tryz.prog 156 #[.int .u8 c.toNat] w fun e w'=>e=.returned (.bool (Dt.jU c))∧w'=w:=by
 have key:∀ b,Dt.jU c=b->Hid (Dt.jU c=b):=fun _ h=>h
 by_cases h1:48<=c.toNat
 ·by_cases h2:c.toNat<=57
  ·have HA:=key true (by simp [Dt.jU,h1,h2]);have d1:(48:Int)<=(c.toNat:Int):=by omega
   have d2:(c.toNat:Int)<=57:=by omega
   go_enter Tryz.func156,Tryz.ntmps156;go_wp2;go_ret;rw [HA.out];exact⟨rfl,rfl⟩
  by_cases h3:97<=c.toNat
  ·by_cases h4:c.toNat<=122
   ·have HA:=key true (by simp [Dt.jU,h1,h2,h3,h4]);have d1:(48:Int)<=(c.toNat:Int):=by omega
    have d2:(57:Int)<(c.toNat:Int):=by omega
    have e2:decide ((c.toNat:Int)<=57)=false:=by simp;omega
    have d3:(97:Int)<=(c.toNat:Int):=by omega
    have d4:(c.toNat:Int)<=122:=by omega
    go_enter Tryz.func156,Tryz.ntmps156;go_wp2;go_ret;rw [HA.out];exact⟨rfl,rfl⟩
   have HA:=key false (by simp [Dt.jU];omega);have d1:(48:Int)<=(c.toNat:Int):=by omega
   have d2:(57:Int)<(c.toNat:Int):=by omega
   have e2:decide ((c.toNat:Int)<=57)=false:=by simp;omega
   have d3:(97:Int)<=(c.toNat:Int):=by omega
   have d4:(122:Int)<(c.toNat:Int):=by omega
   have e4:decide ((c.toNat:Int)<=122)=false:=by simp;omega
   have d5:(65:Int)<=(c.toNat:Int):=by omega
   have d6:(90:Int)<(c.toNat:Int):=by omega
   have e6:decide ((c.toNat:Int)<=90)=false:=by simp;omega
   go_enter Tryz.func156,Tryz.ntmps156;go_wp2;go_ret;rw [HA.out];exact⟨rfl,rfl⟩
  by_cases h5:65<=c.toNat∧c.toNat<=90
  ·have HA:=key true (by simp [Dt.jU];omega);have d1:(48:Int)<=(c.toNat:Int):=by omega
   have d2:(57:Int)<(c.toNat:Int):=by omega
   have e2:decide ((c.toNat:Int)<=57)=false:=by simp;omega
   have d3:(c.toNat:Int)<97:=by omega
   have d5:(65:Int)<=(c.toNat:Int):=by omega
   have d6:(c.toNat:Int)<=90:=by omega
   go_enter Tryz.func156,Tryz.ntmps156;go_wp2;go_ret;rw [HA.out];exact⟨rfl,rfl⟩
  have HA:=key false (by simp [Dt.jU];omega);have d1:(48:Int)<=(c.toNat:Int):=by omega
  have d2:(57:Int)<(c.toNat:Int):=by omega
  have e2:decide ((c.toNat:Int)<=57)=false:=by simp;omega
  have d3:(c.toNat:Int)<97:=by omega
  by_cases h6:65<=c.toNat
  ·have d5:(65:Int)<=(c.toNat:Int):=by omega
   have d6:(90:Int)<(c.toNat:Int):=by omega
   have e6:decide ((c.toNat:Int)<=90)=false:=by simp;omega
   go_enter Tryz.func156,Tryz.ntmps156;go_wp2;go_ret;rw [HA.out];exact⟨rfl,rfl⟩
  have d5:(c.toNat:Int)<65:=by omega
  go_enter Tryz.func156,Tryz.ntmps156;go_wp2;go_ret;rw [HA.out];exact⟨rfl,rfl⟩
 have HA:=key false (by simp [Dt.jU];omega);have d1:(c.toNat:Int)<48:=by omega
 have d3:(c.toNat:Int)<97:=by omega
 have d5:(c.toNat:Int)<65:=by omega
 go_enter Tryz.func156,Tryz.ntmps156;go_wp2;go_ret;rw [HA.out];exact⟨rfl,rfl⟩
theorem GZ(t:Int)(w:World):
 Calls Tryz.prog 124 #[.int .i64 t] w fun e w'=>e=.returned (.string (Dt.nW t))∧w'=w:=by
 by_cases h:t=1∨t=2∨t=5∨t=6∨t=12∨t=13∨t=15∨t=16∨t=28∨t=33∨t=35∨t=39∨t=47∨t=257
 ·rcases h with rfl|rfl|rfl|rfl|rfl|rfl|rfl|rfl|rfl|rfl|rfl|rfl|rfl|rfl
  all_goals
   go_enter Tryz.func124,Tryz.ntmps124;go_wp2;go_ret;exact⟨rfl,rfl⟩
 have HA:Hid (Dt.nW t=⟨#[42]⟩):=by
  show _=_
  unfold Dt.nW;simp only [show ¬t=1 by omega,show ¬(t=2∨t=5∨t=12∨t=39) by omega,show ¬t=6 by omega,show ¬t=13 by omega,show ¬t=15 by omega,show ¬t=16 by omega,show ¬t=28 by omega,show ¬t=33 by omega,show ¬t=35 by omega,show ¬t=47 by omega,show ¬t=257 by omega,if_false]
 have b1:(t==1)=false:=by rw [fC];omega
 have b2:(t==2)=false:=by rw [fC];omega
 have b3:(t==5)=false:=by rw [fC];omega
 have b4:(t==6)=false:=by rw [fC];omega
 have b5:(t==12)=false:=by rw [fC];omega
 have b6:(t==13)=false:=by rw [fC];omega
 have b7:(t==15)=false:=by rw [fC];omega
 have b8:(t==16)=false:=by rw [fC];omega
 have b9:(t==28)=false:=by rw [fC];omega
 have b10:(t==33)=false:=by rw [fC];omega
 have b11:(t==35)=false:=by rw [fC];omega
 have L_:(t==39)=false:=by rw [fC];omega
 have b13:(t==47)=false:=by rw [fC];omega
 have b14:(t==257)=false:=by rw [fC];omega
 clear h;go_enter Tryz.func124,Tryz.ntmps124;go_wp2;go_ret;rw [HA.out];exact⟨rfl,rfl⟩
theorem Y3{s:ByteArray}(h:0<s.size)(h1:s.size<s[0].toNat+1):Dt.fP s=ByteArray.empty:=by
 rw [Dt.fP,dif_pos h,if_neg (by omega)]
theorem aDg{s:ByteArray}(h:0<s.size)(h1:s[0].toNat+1<=s.size):Dt.fP s=s.extract 0 (s[0].toNat+1):=by
 rw [Dt.fP,dif_pos h,if_pos h1]
theorem aDh{s:ByteArray}(h:s.size=0):Dt.fP s=ByteArray.empty:=by
 rw [Dt.fP,dif_neg (by omega)]
theorem IA(s:ByteArray)(w:World)(hs:s.size<=maxLen):
 Calls Tryz.prog 155 #[.string s] w fun e w'=>e=.returned (.string (Dt.fP s))∧w'=w:=by
 unfold maxLen at hs
 by_cases h0:s.size=0
 ·have HA:=Nm.aD (aDh h0)
  have he:s=ByteArray.empty:=by
   apply ByteArray.ext;exact Array.eq_empty_of_size_eq_zero h0
  subst he;go_enter Tryz.func155,Tryz.ntmps155;go_wp2;go_ret;rw [HA.out];exact⟨rfl,rfl⟩
 have hp:0<s.size:=by omega
 have he:(s.toList==[])=false:=by
  rw [fC,ByteArray.toList_eq];intro e;have h9:=congrArg List.length e;rw [Array.length_toList] at h9;exact h0 h9
 have hc:(s[0].toNat:Int)<256:=by have:=s[0].toNat_lt;omega
 by_cases h1:s.size<s[0].toNat+1
 ·have HA:=Nm.aD (Y3 hp h1);have ZG:(s.size:Int)<(s[0].toNat:Int)+1:=by omega
  go_enter Tryz.func155,Tryz.ntmps155;go_wp2;go_ret;rw [HA.out];exact⟨rfl,rfl⟩
 have HA:=Nm.aD (aDg hp (by omega));have ZG:(s[0].toNat:Int)+1<=(s.size:Int):=by omega
 go_enter Tryz.func155,Tryz.ntmps155;go_wp2;go_ret;rw [HA.out];exact⟨rfl,rfl⟩
def zS:Nat->ByteArray->List (Nat×ByteArray)
 |0,_=>[]
 |f+1,s=>if h:2<=s.size then(s[0].toNat,s.extract 2 (s[1].toNat+2))::zS f (s.extract (s[1].toNat+2) s.size) else []
theorem ZH:∀ (f g:Nat) (s:ByteArray),s.size<f->s.size<g->zS f s=zS g s:=by
 intro f
 induction f with
 |zero=>intro g s hf;omega
 |succ f ih=>
  intro g s hf hg
  cases g with
  |zero=>omega
  |succ g=>
   rw [zS,zS]
   by_cases h:2<=s.size
   ·have he:(s.extract (s[1].toNat+2) s.size).size=s.size-(s[1].toNat+2):=by simp
    rw [dif_pos h,dif_pos h,ih g _ (by omega) (by omega)]
   rw [dif_neg h,dif_neg h]
def sU(s:ByteArray):List (Nat×ByteArray):=zS (s.size+1) s
theorem Xe{s:ByteArray}(h:s.size=0):sU s=[]:=by rw [sU,zS,dif_neg (by omega)]
theorem Pb{s:ByteArray}(h:2<=s.size):sU s=(s[0].toNat,s.extract 2 (s[1].toNat+2))::sU (s.extract (s[1].toNat+2) s.size):=by
 have he:(s.extract (s[1].toNat+2) s.size).size=s.size-(s[1].toNat+2):=by simp
 rw [sU,zS,dif_pos h,sU,ZH _ ((s.extract (s[1].toNat+2) s.size).size+1) _ (by omega) (by omega)]
def sV(bl:List (Nat×ByteArray)):List Value:=bl.flatMap fun b=>[.int .i64 (b.1:Int),.string b.2]
theorem VY(a b:List (Nat×ByteArray)):sV (a++b)=sV a++sV b:=by simp [sV]
def BAt(s:ByteArray)(bl:List (Nat×ByteArray))(last:Int)(r:ByteArray):Prop:=
 Iq s=DR (r.size+1) last r∧sU s=bl++sU r
theorem Y4(s:ByteArray):BAt s [] (-1) s:=⟨rfl,rfl⟩
variable {bl:List (Nat×ByteArray)}
theorem aHx{s r:ByteArray}{last:Int}(h:BAt s bl last r)(h0:r.size=0):Iq s=true∧sU s=bl:=by
 refine⟨h.1.trans (J9 h0),?_⟩;rw [h.2,Xe h0,List.append_nil]
theorem aDi{s r:ByteArray}{last:Int}(h:BAt s bl last r)(h1:2<=r.size)(h2:last<(r[0].toNat:Int)∧1<=r[1].toNat∧r[1].toNat<=32∧r[1].toNat+2<=r.size)(h3:(r[r[1].toNat+1]'(by omega)).toNat≠0):
 BAt s (bl++[(r[0].toNat,r.extract 2 (r[1].toNat+2))]) (r[0].toNat:Int) (r.extract (r[1].toNat+2) r.size):=by
 refine⟨h.1.trans (Nt h1 h2 h3),?_⟩;rw [h.2,Pb h1];simp
theorem Tryz.aHy:(Tryz.prog.info? 299).map (fun i=>(i.zero,i.size,i.bytes))=some (some (.agg #[.int .i64 0,.string ByteArray.empty]),2,24):=by kernel_rfl
theorem aDj{W wr w1:World}{v v':Value}{B e n:Nat}{x:Nat×ByteArray}(hB:B<=wr.heap.size)
 (aU:wr.ownsRow B e 2 v n (sV bl)) (aG:Below B W wr) (o:Obj)
 (dE:w1.ownsRow B e 2 v' (n+1) (sV bl++[.int .i64 (x.1:Int),.string x.2])) (bU:(wr.alloc o).grownBy w1 v.ownBlock):
 w1.ownsRow B e 2 v' (n+1) (sV (bl++[x]))∧Below B W w1:=by
 refine⟨by rw [VY];exact dE,?_⟩;refine(aG.alloc hB o).grown bU (by simp;omega) ?_;intro k hk;exact(aU.lt k hk).1
theorem Gm(w:World)(x y:Value)(e:Nat):∀ (j:Nat) (u:Value),[x,y][j]? =some u->(w.alloc (.cells #[x,y] e)).cell? ((⟨w.heap.size,0,none⟩:Addr).add j)=some u:=by
 intro j u hj
 match j,hj with
 |0,hj=>simp at hj;subst hj;simp [Addr.add]
 |1,hj=>simp at hj;subst hj;simp [Addr.add]
theorem Gn(x y:Value)(h:x.oneCell'=true)(h':y.oneCell'=true):∀ u:Value,u∈[x,y]->u.oneCell'=true:=by
 intro u hu;simp at hu;rcases hu with rfl|rfl<;>assumption
theorem Ea(s0:ByteArray)(w:World)(hs:s0.size<=2000000):
 Calls Tryz.prog 245 #[.string s0] w fun e w'=>∃ v,e=.returned (.tuple #[v,.bool (Iq s0)])∧
  (Iq s0=true->w'.ownsRow w.heap.size 299 2 v (sU s0).length (sV (sU s0)))∧Below w.heap.size w w':=by
 obtain⟨i0,hi,iQ,iH,iI⟩:=info_parts Tryz.aHy;have mI:=Y4 s0;go_enter Tryz.func245,Tryz.ntmps245;go_wp2
 go_loopw [4,5,6] (fun v l u wr=>∃ (n:Nat) (bl:List (Nat×ByteArray)) (last:Int) (s:ByteArray),-1<=last∧last<256∧l=.int .i64 last∧u=.string s∧n+s.size<=s0.size∧Hid (bl.length=n)∧BAt s0 bl last s∧wr.ownsRow w.heap.size 299 2 v n (sV bl)∧Below w.heap.size w wr)
  (fun _ _ u _=>match u with|.string s=>s.size|_=>0)
 ·exact⟨0,[],-1,s0,by omega,by omega,rfl,rfl,by omega,rfl,mI,World.ownsRow_nil _ _ _ _,aJ _ _⟩
 obtain⟨n,bl,last,s,hl0,GD,rfl,rfl,hz,HL,hn,aU,aG⟩:=hrel;clear mI;have qA:=aG.size
 by_cases h0:s.size=0
 ·have HN:=Nm.aD (aHx hn h0);obtain⟨e1,e2⟩:=nJ h0;clear hn h0;go_wp2;go_ret2;rw [HN.out.1];exact⟨_,rfl,fun _=>by rw [HN.out.2,HL.out];exact aU,aG⟩
 obtain⟨e1,e2⟩:=iR (s:=s) (by omega)
 by_cases h1:s.size=1
 ·have HN:=Nm.aD (hn.1.trans (J_ h1));clear hn;go_wp2;go_ret2;rw [HN.out];exact⟨_,rfl,(fun h=>by cases h),aG⟩
 have h2:2<=s.size:=by omega
 have PG:(s[0].toNat:Int)<256:=by have:=s[0].toNat_lt;omega
 have mQ:(s[1].toNat:Int)<256:=by have:=s[1].toNat_lt;omega
 have p0:0<s.size:=by omega
 have p1:1<s.size:=by omega
 have i1':(1:Int)<(s.size:Int):=by omega
 clear h0 h1
 by_cases ha:last<(s[0].toNat:Int)
 ·by_cases hb:1<=s[1].toNat
  ·have hb':((2:Int)+(s[1].toNat:Int)==2)=false:=by rw [fC];omega
   by_cases Pd:s[1].toNat<=32
   ·have aKp:(2:Int)+(s[1].toNat:Int)<=34:=by omega
    by_cases hd:s[1].toNat+2<=s.size
    ·have Eb:(2:Int)+(s[1].toNat:Int)<=(s.size:Int):=by omega
     by_cases h3:s[s[1].toNat+1].toNat=0
     ·have HN:=Nm.aD (hn.1.trans (Ns h2 ⟨ha,hb,Pd,hd⟩ h3));have hq:1+s[1].toNat<s.size:=by omega
      have h3':((s[1+s[1].toNat].toNat:Int)==0)=true:=by
       rw [beq_iff_eq];simp only [Nat.add_comm 1];omega
      clear h3;clear hn;go_wp2;go_region
      go_wp2;go_ret2;rw [HN.out];exact⟨_,rfl,(fun h=>by cases h),by first|exact aG.drew|exact aG⟩
     have HN:=Nm.aD (aDi hn h2 ⟨ha,hb,Pd,hd⟩ h3);have hq:1+s[1].toNat<s.size:=by omega
     have h3':((s[1+s[1].toNat].toNat:Int)==0)=false:=by
      rw [fC];simp only [Nat.add_comm 1];omega
     have hes:(s.extract (2+s[1].toNat) s.size).size=s.size-(2+s[1].toNat):=by simp
     rw [Nat.add_comm s[1].toNat 2] at HN
     have HL2:Hid ((bl++[(s[0].toNat,s.extract 2 (2+s[1].toNat))]).length=n+1):=by
      show _=_
      rw [oJ,HL.out];rfl
     clear h3 hn HL;go_wp2;go_region
     go_wp2_with (at_builtin;refine wpList_append_own _ rfl (.tmp 46) (.tmp 52) 295 rfl w.heap.size 299 i0 (.agg #[.int .i64 0,.string ByteArray.empty]) 2 24 Tryz.underlying295 hi iQ iH iI rfl (by decide) _ _ _ rfl (aU.alloc _) ⟨wr.heap.size,0,none⟩ 1 1 [.int .i64 (s[0].toNat:Int),.string (s.extract 2 (2+s[1].toNat))] rfl rfl (Gm _ _ _ _) (Gn _ _ rfl rfl) (by unfold maxLen;omega) (by omega) (by simp;omega) ?_)
     intro v' w1 dE bU _;have R:=aDj (wr:=wr.drew) (x:=(s[0].toNat,s.extract 2 (2+s[1].toNat))) qA aU aG.drew (.cells #[.int .i64 (s[0].toNat:Int),.string (s.extract 2 (2+s[1].toNat))] 299) dE bU;clear dE bU aU aG;go_wp2;go_region
     go_wp2;go_roundw
     ·exact⟨n+1,_,_,_,by omega,by omega,rfl,rfl,by omega,HL2,HN.out,R.1,R.2.drew⟩
     simp only [hes];omega
    have HN:=Nm.aD (hn.1.trans (GG h2 (by omega)));have Eb:(s.size:Int)<2+(s[1].toNat:Int):=by omega
    clear hn;go_wp2;go_region
    go_wp2;go_ret2;rw [HN.out];exact⟨_,rfl,(fun h=>by cases h),by first|exact aG.drew|exact aG⟩
   have HN:=Nm.aD (hn.1.trans (GG h2 (by omega)));have aKp:(34:Int)<2+(s[1].toNat:Int):=by omega
   clear hn;go_wp2;go_region
   go_wp2;go_ret2;rw [HN.out];exact⟨_,rfl,(fun h=>by cases h),by first|exact aG.drew|exact aG⟩
  have HN:=Nm.aD (hn.1.trans (GG h2 (by omega)));have hb':((2:Int)+(s[1].toNat:Int)==2)=true:=by rw [beq_iff_eq];omega
  clear hn;go_wp2;go_region
  go_wp2;go_ret2;rw [HN.out];exact⟨_,rfl,(fun h=>by cases h),by first|exact aG.drew|exact aG⟩
 have HN:=Nm.aD (hn.1.trans (GG h2 (by omega)));have ha':(s[0].toNat:Int)<=last:=by omega
 clear hn;go_wp2;go_region
 go_wp2;go_ret2;rw [HN.out];exact⟨_,rfl,(fun h=>by cases h),by first|exact aG.drew|exact aG⟩
theorem gL(s:ByteArray)(w:World)(hs:s.size<=maxLen):
 Calls Tryz.prog 30 #[.string s] w fun e w'=>∃ v,e=.returned (.tuple #[v,.bool (Nm.split s).isSome])∧
  w'.ownsRow w.heap.size 9 1 v ((Nm.split s).getD []).length (((Nm.split s).getD []).map Value.string)∧Below w.heap.size w w':=by
 unfold maxLen at hs;obtain⟨i0,hi,iQ,iH,iI⟩:=info_parts Tryz.wM
 by_cases Gg:255<s.size
 ·have H:Hid (Nm.split s=none):=Nm.DI s Gg;have hl:(255:Int)<(s.size:Int):=by omega
  go_enter Tryz.func30,Tryz.ntmps30;go_wp2;go_ret2;rw [H.out];exact⟨_,rfl,World.ownsRow_nil _ _ _ _,(aJ _ _).alloc (aI _) _⟩
 by_cases aKq:s.size=0
 ·have H:Hid (Nm.split s=none):=Nm.YF (Nm.YE s (by omega)) aKq;have hl:(s.size:Int)<1:=by omega
  go_enter Tryz.func30,Tryz.ntmps30;go_wp2;go_ret2;rw [H.out];exact⟨_,rfl,World.ownsRow_nil _ _ _ _,(aJ _ _).alloc (aI _) _⟩
 have hl:(s.size:Int)<=255:=by omega
 have GD:(1:Int)<=(s.size:Int):=by omega
 have mI:=Nm.YE s (by omega);go_enter Tryz.func30,Tryz.ntmps30;go_wp2
 go_loopw [4,5] (fun v x wr=>∃ (ls:List ByteArray) (r:ByteArray),x=.string r∧Nm.At s ls r∧ls.length+r.size<=255∧wr.ownsRow w.heap.size 9 1 v ls.length (ls.map Value.string)∧Below w.heap.size w wr)
  (fun _ x _=>match x with|.string r=>r.size|_=>0)
 ·exact⟨[],s,rfl,mI,by simp;omega,World.ownsRow_made w #[] 0 (aI _) (by decide) rfl,(aJ _ _).alloc (aI _) _⟩
 obtain⟨ls,r,rfl,jH,hb,aU,aG⟩:=hrel;clear mI
 by_cases h0:r.size=0
 ·have HN:Hid (Nm.split s=none):=Nm.YF jH h0;have e2:=Nm.YG h0;go_wp2;go_ret2;rw [HN.out];exact⟨_,rfl,World.ownsRow_nil _ _ _ _,aG⟩
 have hp:0<r.size:=by omega
 have hn:(r[0].toNat:Int)<256:=by have:=r[0].toNat_lt;omega
 have e2:=Nm.OL hp
 by_cases h2:r[0].toNat=0
 ·have e3:((r[0].toNat:Int)==0)=true:=by simp [h2]
  by_cases h1:r.size=1
  ·have HN:Hid (Nm.split s=some ls):=Nm.at_end jH hp h2 h1;have e4:((r.size:Int) != 1)=false:=by simp [h1]
   clear h1 h2;go_wp2;go_ret2;rw [HN.out];exact⟨_,rfl,aU,aG⟩
  have HN:Hid (Nm.split s=none):=Nm.J4 jH hp h2 h1;have e4:((r.size:Int) != 1)=true:=by rw [bne_iff_ne];omega
  clear h1 h2;go_wp2;go_ret2;rw [HN.out];exact⟨_,rfl,World.ownsRow_nil _ _ _ _,aG⟩
 have e3:((r[0].toNat:Int)==0)=false:=by rw [fC];omega
 have e3':(0:Int)<(r[0].toNat:Int):=by omega
 by_cases h3:63<r[0].toNat
 ·have HN:Hid (Nm.split s=none):=Nm.Wo jH hp h2 (.inl h3);have e4:(63:Int)<(r[0].toNat:Int):=by omega
  clear h2 h0 h3;go_wp2;go_ret2;rw [HN.out];exact⟨_,rfl,World.ownsRow_nil _ _ _ _,aG⟩
 have e4:(r[0].toNat:Int)<=63:=by omega
 by_cases h4:r.size<r[0].toNat+1
 ·have HN:Hid (Nm.split s=none):=Nm.Wo jH hp h2 (.inr h4);have e5:(r.size:Int)<(r[0].toNat:Int)+1:=by omega
  clear h2 h0 h3 h4;go_wp2;go_ret2;rw [HN.out];exact⟨_,rfl,World.ownsRow_nil _ _ _ _,aG⟩
 have e5:(r[0].toNat:Int)+1<=(r.size:Int):=by omega
 have HN:Hid (Nm.At s (ls++[r.extract 1 (r[0].toNat+1)]) (r.extract (r[0].toNat+1) r.size)):=Nm.J5 jH hp h2 (by omega) (by omega);have qA:=aG.size;clear h2 h0 h3 h4;go_wp2_with (at_builtin;refine wpList_append_own _ rfl (.tmp 37) (.tmp 42) 32 rfl w.heap.size 9 i0 (.string ByteArray.empty) 1 16 Tryz.underlying32 hi iQ iH iI rfl (by decide) _ _ _ rfl (aU.alloc _) ⟨wr.heap.size,0,none⟩ 1 1 [.string (r.extract 1 (r[0].toNat+1))] rfl rfl ?c1 ?c2 ?c3 ?c4 ?c5 ?_)
 case c1=>
  intro j u hj
  match j,hj with
  |0,hj=>simp at hj;subst hj;simp [Addr.add]
 case c2=>exact Nm.one_cell _ rfl
 case c3=>unfold maxLen;omega
 case c4=>omega
 case c5=>simp;omega
 intro v' w1 dE bU _;have R:=lY qA aU aG _ dE bU;clear dE bU aU aG;go_wp2;go_roundw
 ·exact⟨_,_,rfl,HN.out,by simp;omega,R.1,R.2⟩
 simp;omega
