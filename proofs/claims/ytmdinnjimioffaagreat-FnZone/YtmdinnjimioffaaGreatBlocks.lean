import Derived.Test.YtmdinnjimioffaaGreatJDataM
import Derived.Test.YtmdinnjimioffaaGreatOwnS
import Derived.Test.YtmdinnjimioffaaGreatJFoldM
namespace Go.Proofs.YtmdinnjimioffaaGreat
open Go.RowKit
def blocksF:Nat->ByteArray->List (Nat×ByteArray)
 |0,_=>[]
 |f+1,s=>if h:2<=s.size then(s[0].toNat,s.extract 2 (s[1].toNat+2))::blocksF f (s.extract (s[1].toNat+2) s.size) else []
theorem blocksF_enough:∀ (f g:Nat) (s:ByteArray),s.size<f->s.size<g->blocksF f s=blocksF g s:=by
 intro f
 induction f with
 |zero=>intro g s hf;omega
 |succ f ih=>
  intro g s hf hg
  cases g with
  |zero=>omega
  |succ g=>
   rw [blocksF,blocksF]
   by_cases h:2<=s.size
   ·have he:(s.extract (s[1].toNat+2) s.size).size=s.size-(s[1].toNat+2):=by simp
    rw [dif_pos h,dif_pos h,ih g _ (by omega) (by omega)]
   ·rw [dif_neg h,dif_neg h]
def blocksS(s:ByteArray):List (Nat×ByteArray):=blocksF (s.size+1) s
theorem blocks_end{s:ByteArray}(h:s.size=0):blocksS s=[]:=by rw [blocksS,blocksF,dif_neg (by omega)]
theorem blocks_step{s:ByteArray}(h:2<=s.size):blocksS s=(s[0].toNat,s.extract 2 (s[1].toNat+2))::blocksS (s.extract (s[1].toNat+2) s.size):=by
 have he:(s.extract (s[1].toNat+2) s.size).size=s.size-(s[1].toNat+2):=by simp
 rw [blocksS,blocksF,dif_pos h,blocksS,blocksF_enough _ ((s.extract (s[1].toNat+2) s.size).size+1) _ (by omega) (by omega)]
def blkCells(bl:List (Nat×ByteArray)):List Value:=bl.flatMap fun b=>[.int .i64 (b.1:Int),.string b.2]
theorem blkCells_append(a b:List (Nat×ByteArray)):blkCells (a++b)=blkCells a++blkCells b:=by simp [blkCells]
def BAt(s:ByteArray)(bl:List (Nat×ByteArray))(last:Int)(r:ByteArray):Prop:=
 mapS s=mapF (r.size+1) last r∧blocksS s=bl++blocksS r
theorem bat_start(s:ByteArray):BAt s [] (-1) s:=⟨rfl,rfl⟩
theorem bat_end{s r:ByteArray}{bl:List (Nat×ByteArray)}{last:Int}(h:BAt s bl last r)(h0:r.size=0):mapS s=true∧blocksS s=bl:=by
 refine⟨h.1.trans (map_end h0),?_⟩;rw [h.2,blocks_end h0,List.append_nil]
theorem bat_step{s r:ByteArray}{bl:List (Nat×ByteArray)}{last:Int}(h:BAt s bl last r)(h1:2<=r.size)(h2:last<(r[0].toNat:Int)∧1<=r[1].toNat∧r[1].toNat<=32∧r[1].toNat+2<=r.size)(h3:(r[r[1].toNat+1]'(by omega)).toNat≠0):
 BAt s (bl++[(r[0].toNat,r.extract 2 (r[1].toNat+2))]) (r[0].toNat:Int) (r.extract (r[1].toNat+2) r.size):=by
 refine⟨h.1.trans (map_step h1 h2 h3),?_⟩;rw [h.2,blocks_step h1];simp
theorem Tryz.infoBlk:(Tryz.prog.info? 265).map (fun i=>(i.zero,i.size,i.bytes))=some (some (.agg #[.int .i64 0,.string ByteArray.empty]),2,24):=by kernel_rfl
theorem blk_step{W wr w1:World}{v v':Value}{B e n:Nat}{bl:List (Nat×ByteArray)}{x:Nat×ByteArray}(hB:B<=wr.heap.size)
 (hown:wr.ownsRow B e 2 v n (blkCells bl)) (hbel:Below B W wr) (o:Obj)
 (hown':w1.ownsRow B e 2 v' (n+1) (blkCells bl++[.int .i64 (x.1:Int),.string x.2])) (hgrow:(wr.alloc o).grownBy w1 v.ownBlock):
 w1.ownsRow B e 2 v' (n+1) (blkCells (bl++[x]))∧Below B W w1:=by
 refine⟨by rw [blkCells_append];exact hown',?_⟩;refine(hbel.alloc hB o).grown hgrow (by simp;omega) ?_;intro k hk;exact(hown.lt k hk).1
theorem cell_new2(w:World)(x y:Value)(e:Nat):∀ (j:Nat) (u:Value),[x,y][j]? =some u->(w.alloc (.cells #[x,y] e)).cell? ((⟨w.heap.size,0,none⟩:Addr).add j)=some u:=by
 intro j u hj
 match j,hj with
 |0,hj=>simp at hj;subst hj;simp [Addr.add]
 |1,hj=>simp at hj;subst hj;simp [Addr.add]
theorem two_cells(x y:Value)(h:x.oneCell'=true)(h':y.oneCell'=true):∀ u:Value,u∈[x,y]->u.oneCell'=true:=by
 intro u hu;simp at hu;rcases hu with rfl|rfl<;>assumption
set_option maxRecDepth 100000 in
set_option maxHeartbeats 4000000 in
theorem mapBlocks_any(s0:ByteArray)(w:World)(hs:s0.size<=2000000):
 Calls Tryz.prog 215 #[.string s0] w fun e w'=>∃ v,e=.returned (.tuple #[v,.bool (mapS s0)])∧
  (mapS s0=true->w'.ownsRow w.heap.size 265 2 v (blocksS s0).length (blkCells (blocksS s0)))∧Below w.heap.size w w':=by
 obtain⟨i0,hi,hz0,hz1,hz2⟩:=info_parts Tryz.infoBlk;have hst:=bat_start s0;go_enter Tryz.func215,Tryz.ntmps215;go_wp2
 go_loopw [4,5,6] (fun v l u wr=>∃ (n:Nat) (bl:List (Nat×ByteArray)) (last:Int) (s:ByteArray),-1<=last∧last<256∧l=.int .i64 last∧u=.string s∧n+s.size<=s0.size∧Hid (bl.length=n)∧BAt s0 bl last s∧wr.ownsRow w.heap.size 265 2 v n (blkCells bl)∧Below w.heap.size w wr)
  (fun _ _ u _=>match u with|.string s=>s.size|_=>0)
 case atStart=>exact⟨0,[],-1,s0,by omega,by omega,rfl,rfl,by omega,rfl,hst,World.ownsRow_nil _ _ _ _,Below.refl _ _⟩
 case round=>
  obtain⟨n,bl,last,s,hl0,hl1,rfl,rfl,hz,HL,hn,hown,hbel⟩:=hrel;clear hst;have hsz:=hbel.size
  by_cases h0:s.size=0
  ·have HN:=Nm.hide (bat_end hn h0);obtain⟨e1,e2⟩:=beq_empty h0;clear hn h0;go_wp2;go_ret2;rw [HN.out.1];exact⟨_,rfl,fun _=>by rw [HN.out.2,HL.out];exact hown,hbel⟩
  ·obtain⟨e1,e2⟩:=not_empty (s:=s) (by omega)
   by_cases h1:s.size=1
   ·have HN:=Nm.hide (hn.1.trans (map_one h1));have h1':(s.size:Int)<2:=by omega
    clear hn;go_wp2;go_ret2;rw [HN.out];exact⟨_,rfl,(fun h=>by cases h),hbel⟩
   ·have h2:2<=s.size:=by omega
    have h2':(2:Int)<=(s.size:Int):=by omega
    have hc0:(s[0].toNat:Int)<256:=by have:=s[0].toNat_lt;omega
    have hc1:(s[1].toNat:Int)<256:=by have:=s[1].toNat_lt;omega
    have p0:0<s.size:=by omega
    have p1:1<s.size:=by omega
    have i0':(0:Int)<(s.size:Int):=by omega
    have i1':(1:Int)<(s.size:Int):=by omega
    clear h0 h1
    by_cases ha:last<(s[0].toNat:Int)
    ·by_cases hb:1<=s[1].toNat
     ·have hb':((2:Int)+(s[1].toNat:Int)==2)=false:=by rw [beq_eq_false_iff_ne];omega
      by_cases hcc:s[1].toNat<=32
      ·have hcc':(2:Int)+(s[1].toNat:Int)<=34:=by omega
       by_cases hd:s[1].toNat+2<=s.size
       ·have hd':(2:Int)+(s[1].toNat:Int)<=(s.size:Int):=by omega
        by_cases h3:s[s[1].toNat+1].toNat=0
        ·have HN:=Nm.hide (hn.1.trans (map_zero h2 ⟨ha,hb,hcc,hd⟩ h3));have hq:1+s[1].toNat<s.size:=by omega
         have h3':((s[1+s[1].toNat].toNat:Int)==0)=true:=by
          rw [beq_iff_eq];simp only [Nat.add_comm 1];omega
         clear h3;clear hn;go_wp2;go_region
         go_wp2;go_ret2;rw [HN.out];exact⟨_,rfl,(fun h=>by cases h),by first|exact hbel.drew|exact hbel⟩
        ·have HN:=Nm.hide (bat_step hn h2 ⟨ha,hb,hcc,hd⟩ h3);have hq:1+s[1].toNat<s.size:=by omega
         have h3':((s[1+s[1].toNat].toNat:Int)==0)=false:=by
          rw [beq_eq_false_iff_ne];simp only [Nat.add_comm 1];omega
         have hes:(s.extract (2+s[1].toNat) s.size).size=s.size-(2+s[1].toNat):=by simp
         rw [Nat.add_comm s[1].toNat 2] at HN;have hd2:2+s[1].toNat<=s.size:=by omega
         have HL2:Hid ((bl++[(s[0].toNat,s.extract 2 (2+s[1].toNat))]).length=n+1):=by
          show _=_
          rw [List.length_append,HL.out];rfl
         clear h3 hn HL;go_wp2;go_region
         go_wp2_with (at_builtin;refine wpList_append_own _ rfl (.tmp 46) (.tmp 52) 261 rfl w.heap.size 265 i0 (.agg #[.int .i64 0,.string ByteArray.empty]) 2 24 Tryz.underlying261 hi hz0 hz1 hz2 rfl (by decide) _ _ _ rfl (hown.alloc _) ⟨wr.heap.size,0,none⟩ 1 1 [.int .i64 (s[0].toNat:Int),.string (s.extract 2 (2+s[1].toNat))] rfl rfl (cell_new2 _ _ _ _) (two_cells _ _ rfl rfl) (by unfold maxLen;omega) (by omega) (by simp;omega) ?_)
         intro v' w1 hown' hgrow _;have R:=blk_step (wr:=wr.drew) (x:=(s[0].toNat,s.extract 2 (2+s[1].toNat))) hsz hown hbel.drew (.cells #[.int .i64 (s[0].toNat:Int),.string (s.extract 2 (2+s[1].toNat))] 265) hown' hgrow;clear hown' hgrow hown hbel;go_wp2;go_region
         go_wp2;go_roundw
         case rel=>exact⟨n+1,_,_,_,by omega,by omega,rfl,rfl,by omega,HL2,HN.out,R.1,R.2.drew⟩
         case measure=>simp only [hes];omega
       ·have HN:=Nm.hide (hn.1.trans (map_no h2 (by omega)));have hd':(s.size:Int)<2+(s[1].toNat:Int):=by omega
        clear hn;go_wp2;go_region
        go_wp2;go_ret2;rw [HN.out];exact⟨_,rfl,(fun h=>by cases h),by first|exact hbel.drew|exact hbel⟩
      ·have HN:=Nm.hide (hn.1.trans (map_no h2 (by omega)));have hcc':(34:Int)<2+(s[1].toNat:Int):=by omega
       clear hn;go_wp2;go_region
       go_wp2;go_ret2;rw [HN.out];exact⟨_,rfl,(fun h=>by cases h),by first|exact hbel.drew|exact hbel⟩
     ·have HN:=Nm.hide (hn.1.trans (map_no h2 (by omega)));have hb':((2:Int)+(s[1].toNat:Int)==2)=true:=by rw [beq_iff_eq];omega
      clear hn;go_wp2;go_region
      go_wp2;go_ret2;rw [HN.out];exact⟨_,rfl,(fun h=>by cases h),by first|exact hbel.drew|exact hbel⟩
    ·have HN:=Nm.hide (hn.1.trans (map_no h2 (by omega)));have ha':(s[0].toNat:Int)<=last:=by omega
     clear hn;go_wp2;go_region
     go_wp2;go_ret2;rw [HN.out];exact⟨_,rfl,(fun h=>by cases h),by first|exact hbel.drew|exact hbel⟩
end Go.Proofs.YtmdinnjimioffaaGreat
