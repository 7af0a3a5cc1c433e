import Derived.Test.YtmdinnjimioffaaGreatJMath
import Derived.Test.YtmdinnjimioffaaGreatRows
import Derived.WalkKit
import Derived.WalkSpells
import Derived.WalkLawsBesides
namespace Go.Proofs.YtmdinnjimioffaaGreat
open Go.RowKit
theorem Tryz.infoStr:(Tryz.prog.info? 9).map (fun i=>(i.zero,i.size,i.bytes))=some (some (.string ByteArray.empty),1,16):=by kernel_rfl
theorem own_step{W wr w1:World}{v v':Value}{B e:Nat}{ls:List ByteArray}{x:ByteArray}(hB:B<=wr.heap.size)
 (hown:wr.ownsRow B e 1 v ls.length (ls.map Value.string)) (hbel:Below B W wr) (o:Obj)
 (hown':w1.ownsRow B e 1 v' (ls.length+1) (ls.map Value.string++[.string x])) (hgrow:(wr.alloc o).grownBy w1 v.ownBlock):
 w1.ownsRow B e 1 v' (ls++[x]).length ((ls++[x]).map Value.string)∧Below B W w1:=by
 refine⟨by simpa using hown',?_⟩;refine(hbel.alloc hB o).grown hgrow (by simp;omega) ?_;intro k hk;exact(hown.lt k hk).1
theorem cell_new1(w:World)(x:Value)(e:Nat):∀ (j:Nat) (u:Value),[x][j]? =some u->(w.alloc (.cells #[x] e)).cell? ((⟨w.heap.size,0,none⟩:Addr).add j)=some u:=by
 intro j u hj
 match j,hj with
 |0,hj=>simp at hj;subst hj;simp [Addr.add]
theorem own_below{w w':World}{B e s n:Nat}{v:Value}{xs:List Value}(h:w.ownsRow B e s v n xs)(hb:Below w.heap.size w w'):w'.ownsRow B e s v n xs:=
 h.kept (row:=none) ⟨hb.os,hb.tape,hb.output,hb.size,fun k hk _=>hb.block k hk⟩ (by cases v.ownBlock<;>simp)
theorem own_base{w:World}{B B' e s n:Nat}{v:Value}{xs:List Value}(h:w.ownsRow B e s v n xs)(hb:B'<=B):w.ownsRow B' e s v n xs:=by
 refine⟨h.1,?_⟩
 rcases h.2 with hn|⟨g,cap,cur,hv,hbg,rest⟩
 ·exact .inl hn
 ·exact .inr ⟨g,cap,cur,hv,Nat.le_trans hb hbg,rest⟩
end Go.Proofs.YtmdinnjimioffaaGreat
