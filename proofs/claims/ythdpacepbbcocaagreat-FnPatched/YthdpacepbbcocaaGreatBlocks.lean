import Derived.Test.YthdpacepbbcocaaGreatJAls
set_option maxRecDepth 100000
set_option maxHeartbeats 4000000
namespace Go.Proofs.YthdpacepbbcocaaGreat
open Go.RowKit
def yG:Nat->ByteArray->List (Nat×ByteArray)
 |0,_=>[]
 |f+1,s=>if h:2<=s.size then(s[0].toNat,s.extract 2 (s[1].toNat+2))::yG f (s.extract (s[1].toNat+2) s.size) else []
theorem VZ:∀ (f g:Nat) (s:ByteArray),s.size<f->s.size<g->yG f s=yG g s:=by
 intro f
 induction f with
 |zero=>intro g s hf;omega
 |succ f ih=>
  intro g s hf hg
  cases g with
  |zero=>omega
  |succ g=>
   rw [yG,yG]
   by_cases h:2<=s.size
   ·have he:(s.extract (s[1].toNat+2) s.size).size=s.size-(s[1].toNat+2):=by simp
    rw [dif_pos h,dif_pos h,ih g _ (by omega) (by omega)]
   rw [dif_neg h,dif_neg h]
def rW(s:ByteArray):List (Nat×ByteArray):=yG (s.size+1) s
theorem Ui{s:ByteArray}(h:s.size=0):rW s=[]:=by rw [rW,yG,dif_neg (by omega)]
theorem Ms{s:ByteArray}(h:2<=s.size):rW s=(s[0].toNat,s.extract 2 (s[1].toNat+2))::rW (s.extract (s[1].toNat+2) s.size):=by
 have he:(s.extract (s[1].toNat+2) s.size).size=s.size-(s[1].toNat+2):=by simp
 rw [rW,yG,dif_pos h,rW,VZ _ ((s.extract (s[1].toNat+2) s.size).size+1) _ (by omega) (by omega)]
def rY(bl:List (Nat×ByteArray)):List Value:=bl.flatMap fun b=>[.int .i64 (b.1:Int),.string b.2]
theorem SV(a b:List (Nat×ByteArray)):rY (a++b)=rY a++rY b:=by simp [rY]
def BAt(s:ByteArray)(bl:List (Nat×ByteArray))(last:Int)(r:ByteArray):Prop:=
 Em s=AY (r.size+1) last r∧rW s=bl++rW r
theorem aB5(s:ByteArray):BAt s [] (-1) s:=⟨rfl,rfl⟩
theorem aJr{s r:ByteArray}{bl:List (Nat×ByteArray)}{last:Int}(h:BAt s bl last r)(h0:r.size=0):Em s=true∧rW s=bl:=by
 refine⟨h.1.trans (aAf h0),?_⟩;rw [h.2,Ui h0,List.append_nil]
theorem aFw{s r:ByteArray}{bl:List (Nat×ByteArray)}{last:Int}(h:BAt s bl last r)(h1:2<=r.size)(h2:last<(r[0].toNat:Int)∧1<=r[1].toNat∧r[1].toNat<=32∧r[1].toNat+2<=r.size)(h3:(r[r[1].toNat+1]'(by omega)).toNat≠0):
 BAt s (bl++[(r[0].toNat,r.extract 2 (r[1].toNat+2))]) (r[0].toNat:Int) (r.extract (r[1].toNat+2) r.size):=by
 refine⟨h.1.trans (Kc h1 h2 h3),?_⟩;rw [h.2,Ms h1];simp
theorem Tryz.aJs:(Tryz.prog.info? 304).map (fun i=>(i.zero,i.size,i.bytes))=some (some (.agg #[.int .i64 0,.string ByteArray.empty]),2,24):=by kernel_rfl
theorem aFx{W wr w1:World}{v v':Value}{B e n:Nat}{bl:List (Nat×ByteArray)}{x:Nat×ByteArray}(hB:B<=wr.heap.size)
 (aU:wr.ownsRow B e 2 v n (rY bl)) (aJ:Below B W wr) (o:Obj)
 (dD:w1.ownsRow B e 2 v' (n+1) (rY bl++[.int .i64 (x.1:Int),.string x.2])) (bZ:(wr.alloc o).grownBy w1 v.ownBlock):
 w1.ownsRow B e 2 v' (n+1) (rY (bl++[x]))∧Below B W w1:=by
 refine⟨by rw [SV];exact dD,?_⟩;refine(aJ.alloc hB o).grown bZ (by simp;omega) ?_;intro k hk;exact(aU.lt k hk).1
theorem Cx(w:World)(x y:Value)(e:Nat):∀ (j:Nat) (u:Value),[x,y][j]? =some u->(w.alloc (.cells #[x,y] e)).cell? ((⟨w.heap.size,0,none⟩:Addr).add j)=some u:=by
 intro j u hj
 match j,hj with
 |0,hj=>simp at hj;subst hj;simp [Addr.add]
 |1,hj=>simp at hj;subst hj;simp [Addr.add]
theorem Cy(x y:Value)(h:x.oneCell'=true)(h':y.oneCell'=true):∀ u:Value,u∈[x,y]->u.oneCell'=true:=by
 intro u hu;simp at hu;rcases hu with rfl|rfl<;>assumption
theorem Ak(s0:ByteArray)(w:World)(hs:s0.size<=2000000):
 Calls Tryz.prog 258 #[.string s0] w fun e w'=>∃ v,e=.returned (.tuple #[v,.bool (Em s0)])∧
  (Em s0=true->w'.ownsRow w.heap.size 304 2 v (rW s0).length (rY (rW s0)))∧Below w.heap.size w w':=by
 obtain⟨i0,hi,iJ,fP,fZ⟩:=info_parts Tryz.aJs;have oG:=aB5 s0;go_enter Tryz.func258,Tryz.ntmps258;go_wp2
 go_loopw [4,5,6] (fun v l u wr=>∃ (n:Nat) (bl:List (Nat×ByteArray)) (last:Int) (s:ByteArray),-1<=last∧last<256∧l=.int .i64 last∧u=.string s∧n+s.size<=s0.size∧Hid (bl.length=n)∧BAt s0 bl last s∧wr.ownsRow w.heap.size 304 2 v n (rY bl)∧Below w.heap.size w wr)
  (fun _ _ u _=>match u with|.string s=>s.size|_=>0)
 case atStart=>exact⟨0,[],-1,s0,by omega,by omega,rfl,rfl,by omega,rfl,oG,World.ownsRow_nil _ _ _ _,aK _ _⟩
 obtain⟨n,bl,last,s,hl0,CX,rfl,rfl,hz,HL,hn,aU,aJ⟩:=hrel;clear oG;have pQ:=aJ.size
 by_cases h0:s.size=0
 ·have HN:=Nm.aF (aJr hn h0);obtain⟨e1,e2⟩:=mI h0;clear hn h0;go_wp2;go_ret2;rw [HN.out.1];exact⟨_,rfl,fun _=>by rw [HN.out.2,HL.out];exact aU,aJ⟩
 obtain⟨e1,e2⟩:=jM (s:=s) (by omega)
 by_cases h1:s.size=1
 ·have HN:=Nm.aF (hn.1.trans (aAg h1));have YZ:(s.size:Int)<2:=by omega
  clear hn;go_wp2;go_ret2;rw [HN.out];exact⟨_,rfl,(fun h=>by cases h),aJ⟩
 have h2:2<=s.size:=by omega
 have Sb:(2:Int)<=(s.size:Int):=by omega
 have VU:(s[0].toNat:Int)<256:=by have:=s[0].toNat_lt;omega
 have iK:(s[1].toNat:Int)<256:=by have:=s[1].toNat_lt;omega
 have p0:0<s.size:=by omega
 have p1:1<s.size:=by omega
 have i0':(0:Int)<(s.size:Int):=by omega
 have i1':(1:Int)<(s.size:Int):=by omega
 clear h0 h1
 by_cases ha:last<(s[0].toNat:Int)
 ·by_cases hb:1<=s[1].toNat
  ·have JD:((2:Int)+(s[1].toNat:Int)==2)=false:=by rw [dC];omega
   by_cases Mg:s[1].toNat<=32
   ·have aMo:(2:Int)+(s[1].toNat:Int)<=34:=by omega
    by_cases hd:s[1].toNat+2<=s.size
    ·have ZE:(2:Int)+(s[1].toNat:Int)<=(s.size:Int):=by omega
     by_cases h3:s[s[1].toNat+1].toNat=0
     ·have HN:=Nm.aF (hn.1.trans (Kb h2 ⟨ha,hb,Mg,hd⟩ h3));have hq:1+s[1].toNat<s.size:=by omega
      have h3':((s[1+s[1].toNat].toNat:Int)==0)=true:=by
       rw [beq_iff_eq];simp only [Nat.add_comm 1];omega
      clear h3;clear hn;go_wp2;go_region
      go_wp2;go_ret2;rw [HN.out];exact⟨_,rfl,(fun h=>by cases h),by first|exact aJ.drew|exact aJ⟩
     have HN:=Nm.aF (aFw hn h2 ⟨ha,hb,Mg,hd⟩ h3);have hq:1+s[1].toNat<s.size:=by omega
     have h3':((s[1+s[1].toNat].toNat:Int)==0)=false:=by
      rw [dC];simp only [Nat.add_comm 1];omega
     have Si:(s.extract (2+s[1].toNat) s.size).size=s.size-(2+s[1].toNat):=by simp
     rw [Nat.add_comm s[1].toNat 2] at HN;have Tu:2+s[1].toNat<=s.size:=by omega
     have HL2:Hid ((bl++[(s[0].toNat,s.extract 2 (2+s[1].toNat))]).length=n+1):=by
      show _=_
      rw [nG,HL.out];rfl
     clear h3 hn HL;go_wp2;go_region
     go_wp2_with (at_builtin;refine wpList_append_own _ rfl (.tmp 46) (.tmp 52) 300 rfl w.heap.size 304 i0 (.agg #[.int .i64 0,.string ByteArray.empty]) 2 24 Tryz.underlying300 hi iJ fP fZ rfl (by decide) _ _ _ rfl (aU.alloc _) ⟨wr.heap.size,0,none⟩ 1 1 [.int .i64 (s[0].toNat:Int),.string (s.extract 2 (2+s[1].toNat))] rfl rfl (Cx _ _ _ _) (Cy _ _ rfl rfl) (by unfold maxLen;omega) (by omega) (by simp;omega) ?_)
     intro v' w1 dD bZ _;have R:=aFx (wr:=wr.drew) (x:=(s[0].toNat,s.extract 2 (2+s[1].toNat))) pQ aU aJ.drew (.cells #[.int .i64 (s[0].toNat:Int),.string (s.extract 2 (2+s[1].toNat))] 304) dD bZ;clear dD bZ aU aJ;go_wp2;go_region
     go_wp2;go_roundw
     case rel=>exact⟨n+1,_,_,_,by omega,by omega,rfl,rfl,by omega,HL2,HN.out,R.1,R.2.drew⟩
     simp only [Si];omega
    have HN:=Nm.aF (hn.1.trans (EF h2 (by omega)));have ZE:(s.size:Int)<2+(s[1].toNat:Int):=by omega
    clear hn;go_wp2;go_region
    go_wp2;go_ret2;rw [HN.out];exact⟨_,rfl,(fun h=>by cases h),by first|exact aJ.drew|exact aJ⟩
   have HN:=Nm.aF (hn.1.trans (EF h2 (by omega)));have aMo:(34:Int)<2+(s[1].toNat:Int):=by omega
   clear hn;go_wp2;go_region
   go_wp2;go_ret2;rw [HN.out];exact⟨_,rfl,(fun h=>by cases h),by first|exact aJ.drew|exact aJ⟩
  have HN:=Nm.aF (hn.1.trans (EF h2 (by omega)));have JD:((2:Int)+(s[1].toNat:Int)==2)=true:=by rw [beq_iff_eq];omega
  clear hn;go_wp2;go_region
  go_wp2;go_ret2;rw [HN.out];exact⟨_,rfl,(fun h=>by cases h),by first|exact aJ.drew|exact aJ⟩
 have HN:=Nm.aF (hn.1.trans (EF h2 (by omega)));have Sl:(s[0].toNat:Int)<=last:=by omega
 clear hn;go_wp2;go_region
 go_wp2;go_ret2;rw [HN.out];exact⟨_,rfl,(fun h=>by cases h),by first|exact aJ.drew|exact aJ⟩
