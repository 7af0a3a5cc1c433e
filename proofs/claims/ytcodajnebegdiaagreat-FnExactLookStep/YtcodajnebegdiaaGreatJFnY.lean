import Derived.Test.YtcodajnebegdiaaGreatJFnS
import Derived.Test.YtcodajnebegdiaaGreatJZbB
import Derived.Test.YtcodajnebegdiaaGreatJGrT
import Derived.Test.YtcodajnebegdiaaGreatJMath
import Derived.Test.YtcodajnebegdiaaGreatJSSmall
namespace Go.Proofs.YtcodajnebegdiaaGreat
open Go.RowKit
set_option linter.unusedVariables false
theorem typZ_next{ps:List Zp}{name:ByteArray}{j:Nat}{q:Zp}(hq:ps[j]? =some q):typZ ((ps.take (j+1)).map (·.1)) name=typZ ((ps.take j).map (·.1)) name++(if sameS q.1.own name=true then [q.1.ty] else []):=by
 rw [Nm.take_step hq,List.map_append,typZ,typZ,List.filter_append,List.map_append];congr 1;simp only [List.map_cons,List.map_nil,List.filter_cons,List.filter_nil]
 split<;>rfl
theorem typZ_len(l:List Sz)(name:ByteArray):(typZ l name).length<=l.length:=by
 rw [typZ,List.length_map];exact List.length_filter_le _ _
theorem typ_bel{W wr w1:World}{v:Value}{B e n:Nat}{l:List Value}(hB:B<=wr.heap.size)
 (hown:wr.ownsRow B e 1 v n l) (hbel:Below B W wr) (o:Obj) (hgrow:(wr.alloc o).grownBy w1 v.ownBlock):Below B W w1:=by
 refine(hbel.alloc hB o).grown hgrow (by simp;omega) ?_;intro k hk;exact(hown.lt k hk).1
set_option maxRecDepth 100000 in
set_option maxHeartbeats 1600000 in
theorem l06Types_any(o name:ByteArray)(v:Value)(ps:List Zp)(w:World)(h:ZRow w v ps)(hl:ps.length<=1048576)(hf:∀ p∈ps,p.1.own.size<=1048576)(hn:name.size<=maxLen):
 Calls Tryz.prog 89 #[.agg #[.string o,v],.string name] w fun e w'=>∃ u,e=.returned u∧w'.ownsRow w.heap.size 2 1 u (typZ (ps.map (·.1)) name).length (intCells (typZ (ps.map (·.1)) name))∧Below w.heap.size w w':=by
 obtain⟨va,vc,rfl⟩:∃ va vc,v=.slice va ps.length vc:=by obtain⟨⟨_,a,c,e,_⟩,_⟩:=h;exact⟨a,c,e⟩
 obtain⟨i0,hi,hz0,hz1,hz2⟩:=info_parts infoI64K;have b0:=(Below.refl w.heap.size w).alloc (Nat.le_refl _) (.cells #[.string o,.slice va ps.length vc] 32);have k0:=blk_new w #[.string o,.slice va ps.length vc] 32;have HSm:=Nm.hide (fun(x:ByteArray) (hx:x.size<=1048576) W=>specSameName_any x name W (by unfold maxLen;omega) hn);have HZ:=Nm.hide (fun W (hW:Below w.heap.size w W)=>h.below hW);have HF:=Nm.hide hf;have HG:Hid (∀ W,Below w.heap.size w W->w.heap.size<=W.heap.size):=fun W hW=>hW.size
 have o0:=World.ownsRow_made (base:=w.heap.size) (e:=2) (size:=1) (w.alloc (.cells #[.string o,.slice va ps.length vc] 32)) #[] 0 b0.size (by decide) rfl;rw [World.size_alloc] at o0;have b1:=b0.alloc b0.size (.cells #[] 2);have k1:=blk_alloc k0 (.cells #[] 2);obtain⟨R,hR⟩:∃ R,R=typZ (ps.map (·.1)) name:=⟨_,rfl⟩;rw [<- hR];have HR:=Nm.hide hR;clear h hf hR b0 k0;go_enter Tryz.func89,Tryz.ntmps89;go_wp2;generalize hgg:w.heap.size=g at*;have HGG:=Nm.hide hgg;clear hgg
 go_loopw [5,6] (fun v i wr=>∃ (j m:Nat) (l:List Int),j<=ps.length∧i=.int .i64 j∧m<=j∧Hid (l.length=m)∧Hid (l=typZ ((ps.take j).map (·.1)) name)∧wr.ownsRow g 2 1 v m (intCells l)∧Below g w wr∧Blk wr g #[.string o,.slice va ps.length vc] 32) (fun _ i _=>ps.length-(intOf i).toNat)
 case atStart=>exact⟨0,0,[],Nat.zero_le _,rfl,Nat.le_refl _,rfl,rfl,o0,b1,k1⟩
 case round=>
  clear b1 k1 o0;obtain⟨j,m,l,hj,rfl,hm,HL,HT,hown,hb,kz⟩:=hrel;have rz:=fun i=>blk_cell kz i
  have hgw:=HG.out _ hb;obtain⟨oa,oc,rfl⟩:=own_sl hown
  by_cases hlt:j<ps.length
  ·obtain⟨q,hq⟩:∃ q,ps[j]? =some q:=⟨_,List.getElem?_eq_getElem hlt⟩;obtain⟨⟨_,a9,c9,e9,_,_,hc9⟩,hd9⟩:=HZ.out _ hb;simp only [Value.slice.injEq] at e9;obtain⟨rfl,_,rfl⟩:=e9;obtain⟨b,off,rfl,hcell⟩:=hc9 (by omega);obtain⟨d0,d1,d2,d3⟩:=zp_cells hcell hq;have hsm:=HSm.out q.1.own (HF.out q (List.mem_of_getElem? hq)) wr;have n1:(0:Int)<=(j:Int):=by omega
   have n2:(j:Int)<(ps.length:Int):=by omega
   have HNX:Hid (typZ ((ps.take (j+1)).map (·.1)) name=l++(if sameS q.1.own name=true then [q.1.ty] else [])):=by show _=_;rw [typZ_next hq,HT.out]
   clear hc9 hd9 hcell hq d2 d3;obtain⟨⟨x,ty,tt,ds⟩,u⟩:=q;simp only at d0 d1 hsm HNX
   cases hsb:sameS x name with
   |true=>
    rw [hsb] at hsm HNX;simp only [if_true] at HNX;have HCC:Hid (intCells l++[.int .i64 ty]=intCells (l++[ty])):=by show _=_;simp [intCells]
    have HL2:Hid ((l++[ty]).length=m+1):=by show _=_;rw [List.length_append,HL.out];rfl
    clear hsb HT;go_wp2_with fail
    refine hsm.mono ?_;rintro e w1 ⟨rfl,b1⟩;have kz1:=blk_below kz b1;have rz1:=fun i=>blk_cell kz1 i
    have up:=fun {O:Nat} {z:Value} (hz:wr.cell? ⟨b,O,none⟩=some z)=>(b1.cell (World.block_lt_of_cell? wr _ hz)).trans hz
    have f1:=up d1;have hown1:=own_below hown b1;have bw1:=hb.trans (b1.mono hgw);have hgw1:=HG.out _ bw1;clear up d0 d1 rz kz hb hown hsm b1;go_wp2_with (at_builtin;refine wpList_append_own _ rfl (.tmp 23) (.tmp 30) 72 rfl g 2 i0 (.int .i64 0) 1 8 Tryz.underlying72 hi hz0 hz1 hz2 rfl (by decide) _ _ _ rfl (hown1.alloc _) ⟨w1.heap.size,0,none⟩ 1 1 [.int .i64 ty] rfl rfl (cell_new1 _ _ _) (Nm.one_cell _ rfl) (by unfold maxLen;omega) (by omega) (by simp;omega) ?_)
    intro v' w6 hown6 hgrow _;rw [HCC.out] at hown6;have hb6:=typ_bel hgw1 hown1 bw1 _ hgrow;have kz6:=blk_grown (blk_alloc kz1 _) hgrow (own_nb hown1 kz1 (by decide));clear hgrow hown1 kz1 rz1 bw1;go_wp2;go_roundw
    case rel=>exact⟨j+1,m+1,_,hlt,by go_num,by omega,HL2,HNX.out.symm,hown6,hb6,kz6⟩
    case measure=>simp [intOf];omega
   |false=>
    rw [hsb] at hsm HNX;have HT2:Hid (l=typZ ((ps.take (j+1)).map (·.1)) name):=by show _=_;rw [HNX.out];simp
    clear hsb HT HNX;go_wp2_with (go_at_call 90;refine hsm.mono ?_;rintro e w1 ⟨rfl,b1⟩)
    go_roundw
    case rel=>exact⟨j+1,m,l,hlt,by go_num,by omega,HL,HT2,own_below hown b1,hb.trans (b1.mono hgw),blk_below kz b1⟩
    case measure=>simp [intOf];omega
  ·obtain rfl:j=ps.length:=by omega
   have i9:(ps.length:Int)<=(ps.length:Int):=by omega
   have HE:Hid (l=R):=by show _=_;rw [HR.out,HT.out,List.take_length]
   go_wp2;go_ret;rw [HGG.out];refine⟨_,rfl,?_,hb⟩;rw [<- HE.out,HL.out];exact hown
def NdV(N:Nd)(w:World)(e:Ending)(w':World):Prop:=∃ u,e=.returned (.agg #[.int .i64 N.kd,.string N.clo,.string N.cut,u])∧w'.ownsRow w.heap.size 2 1 u N.ty.length (intCells N.ty)∧Below w.heap.size w w'
theorem node_store{w w2:World}{b B n:Nat}{kd:Int}{x y:ByteArray}{v:Value}{xs:List Value}(k:Blk w2 b #[.int .i64 0,.string ⟨#[]⟩,.string ⟨#[]⟩,.slice none 0 0] 74)(ho:w2.ownsRow B 2 1 v n xs)(hne:v.ownBlock≠some b)(hb:Below w.heap.size w w2)(hlb:w.heap.size<=b):
 Blk ((((w2.setCell ⟨b,0,none⟩ (.int .i64 kd)).setCell ⟨b,1,none⟩ (.string x)).setCell ⟨b,2,none⟩ (.string y)).setCell ⟨b,3,none⟩ v) b #[.int .i64 kd,.string x,.string y,v] 74∧
 ((((w2.setCell ⟨b,0,none⟩ (.int .i64 kd)).setCell ⟨b,1,none⟩ (.string x)).setCell ⟨b,2,none⟩ (.string y)).setCell ⟨b,3,none⟩ v).ownsRow B 2 1 v n xs∧
 Below w.heap.size w ((((w2.setCell ⟨b,0,none⟩ (.int .i64 kd)).setCell ⟨b,1,none⟩ (.string x)).setCell ⟨b,2,none⟩ (.string y)).setCell ⟨b,3,none⟩ v):=by
 have k4:=blk_set (blk_set (blk_set (blk_set k 0 (.int .i64 kd)) 1 (.string x)) 2 (.string y)) 3 v;simp only [List.setIfInBounds_toArray,List.set_cons_zero,List.set_cons_succ] at k4;have ho4:=own_far (y:=v) (i:=3) (g:=b) (own_far (y:=.string y) (i:=2) (g:=b) (own_far (y:=.string x) (i:=1) (g:=b) (own_far (y:=.int .i64 kd) (i:=0) (g:=b) ho hne) hne) hne) hne;exact⟨k4,ho4,(((hb.setCell (p:=⟨b,0,none⟩) hlb (.int .i64 kd)).setCell (p:=⟨b,1,none⟩) hlb (.string x)).setCell (p:=⟨b,2,none⟩) hlb (.string y)).setCell (p:=⟨b,3,none⟩) hlb v⟩
structure NdS (w W:World) (zb p:Nat) (a b c u:Value) (l:List Int):Prop where
 z:Blk W zb #[.int .i64 0,.string ⟨#[]⟩,.string ⟨#[]⟩,.slice none 0 0] 74
 k:Blk W p #[a,b,c,u] 74
 le:w.heap.size<=zb
 lt:zb<p
 row:W.ownsRow w.heap.size 2 1 u l.length (intCells l)
 far:∀ g,u.ownBlock=some g->p<g
 be:Below w.heap.size w W
theorem NdS.below{w W W':World}{zb p:Nat}{a b c u:Value}{l:List Int}(h:NdS w W zb p a b c u l)(hb:Below W.heap.size W W'):NdS w W' zb p a b c u l:=
 ⟨blk_below h.z hb,blk_below h.k hb,h.le,h.lt,own_below h.row hb,h.far,Nm.below_two h.be hb⟩
theorem NdS.put{w W:World}{zb p i:Nat}{a b c u y a' b' c':Value}{l:List Int}(h:NdS w W zb p a b c u l)(e:(#[a,b,c,u]:Array Value).setIfInBounds i y=#[a',b',c',u]):NdS w (W.setCell ⟨p,i,none⟩ y) zb p a' b' c' u l:=
 ⟨blk_far h.z (by have:=h.lt;omega),by rw [<- e];exact blk_set h.k i y,h.le,h.lt,own_far h.row (fun e=>by have:=h.far _ e;omega),h.far,h.be.setCell (p:=⟨p,i,none⟩) (by have:=h.lt;have:=h.le;show w.heap.size<=p;omega) y⟩
theorem NdS.set0{w W:World}{zb p:Nat}{a b c u y:Value}{l:List Int}(h:NdS w W zb p a b c u l):NdS w (W.setCell ⟨p,0,none⟩ y) zb p y b c u l:=h.put rfl
theorem NdS.set1{w W:World}{zb p:Nat}{a b c u y:Value}{l:List Int}(h:NdS w W zb p a b c u l):NdS w (W.setCell ⟨p,1,none⟩ y) zb p a y c u l:=h.put rfl
theorem NdS.set2{w W:World}{zb p:Nat}{a b c u y:Value}{l:List Int}(h:NdS w W zb p a b c u l):NdS w (W.setCell ⟨p,2,none⟩ y) zb p a b y u l:=h.put rfl
theorem NdS.set3{w W W':World}{zb p:Nat}{a b c u y:Value}{l m:List Int}(h:NdS w W zb p a b c u l)(hb:Below W.heap.size W W')(ho:W'.ownsRow W.heap.size 2 1 y m.length (intCells m)):NdS w (W'.setCell ⟨p,3,none⟩ y) zb p a b c y m:=by
 have h':=h.below hb;have hp:=blk_lt h.k;have hf:∀ g,y.ownBlock=some g->p<g:=fun g e=>by have:=(ho.lt g e).1;omega
 exact⟨blk_far h'.z (by have:=h.lt;omega),blk_set h'.k 3 y,h.le,h.lt,own_far (own_base ho h.be.size) (fun e=>by have:=hf _ e;omega),hf,h'.be.setCell (p:=⟨p,3,none⟩) (by have:=h.lt;have:=h.le;show w.heap.size<=p;omega) y⟩
theorem NdS.start{w w2 w3:World}{zb:Nat}(k:Blk w2 zb #[.int .i64 0,.string ⟨#[]⟩,.string ⟨#[]⟩,.slice none 0 0] 74)(hz:w.heap.size<=zb)(hb:Below w.heap.size w w2)(h3:Below (w2.alloc (.cells #[.int .i64 0,.string ⟨#[]⟩,.string ⟨#[]⟩,.slice none 0 0] 74)).heap.size (w2.alloc (.cells #[.int .i64 0,.string ⟨#[]⟩,.string ⟨#[]⟩,.slice none 0 0] 74)) w3):
 NdS w w3 zb w2.heap.size (.int .i64 0) (.string ⟨#[]⟩) (.string ⟨#[]⟩) (.slice none 0 0) []:=
 ⟨blk_below (blk_alloc k _) h3,blk_below (blk_new w2 #[.int .i64 0,.string ⟨#[]⟩,.string ⟨#[]⟩,.slice none 0 0] 74) h3,hz,blk_lt k,World.ownsRow_nil _ _ _ _,by simp [Value.ownBlock],Nm.below_two (hb.alloc hb.size _) h3⟩
theorem NdS.done{w W:World}{zb p:Nat}{kd:Int}{x y:ByteArray}{u:Value}{l:List Int}(h:NdS w W zb p (.int .i64 kd) (.string x) (.string y) u l):
 Blk ((((W.setCell ⟨zb,0,none⟩ (.int .i64 kd)).setCell ⟨zb,1,none⟩ (.string x)).setCell ⟨zb,2,none⟩ (.string y)).setCell ⟨zb,3,none⟩ u) zb #[.int .i64 kd,.string x,.string y,u] 74∧
 NdV ⟨kd,x,y,l⟩ w (.returned (.agg #[.int .i64 kd,.string x,.string y,u])) ((((W.setCell ⟨zb,0,none⟩ (.int .i64 kd)).setCell ⟨zb,1,none⟩ (.string x)).setCell ⟨zb,2,none⟩ (.string y)).setCell ⟨zb,3,none⟩ u):=by
 obtain⟨h1,h2,h3⟩:=node_store (kd:=kd) (x:=x) (y:=y) h.z h.row (fun e=>by have:=h.far _ e;have:=h.lt;omega) h.be h.le;exact⟨h1,_,rfl,h2,h3⟩
end Go.Proofs.YtcodajnebegdiaaGreat
namespace Go.Proofs.YtcodajnebegdiaaGreat
open Go.RowKit
def ancS(s:ByteArray)(n:Int):ByteArray×Int:=
 match Nm.split s with
 |none=>(ByteArray.empty,32)
 |some ls=>if 0<=n∧n<=ls.length then(⟨(Nm.joinL (ls.drop n.toNat)).toArray⟩,0) else(ByteArray.empty,32)
end Go.Proofs.YtcodajnebegdiaaGreat
namespace Go.Proofs.YtcodajnebegdiaaGreat
open Go.RowKit
set_option maxRecDepth 100000 in
set_option maxHeartbeats 800000 in
theorem specAncestor_any(s:ByteArray)(n:Int)(w:World)(hs:s.size<=maxLen):
 Calls Tryz.prog 87 #[.string s,.int .i64 n] w fun e w'=>e=.returned (.tuple #[.string (ancS s n).1,.int .i64 (ancS s n).2])∧Below w.heap.size w w':=by
 have hsp:=l01Split_any s w hs
 cases hq:Nm.split s with
 |none=>
  have HA:Hid (ancS s n=(ByteArray.empty,32)):=by show _=_;simp [ancS,hq]
  rw [hq] at hsp;clear hq;go_enter Tryz.func87,Tryz.ntmps87;go_wp2_with fail
  refine hsp.mono ?_;rintro e w1 ⟨v,rfl,hown,hbel⟩;go_wp2;go_ret2;rw [HA.out]
  exact⟨rfl,hbel⟩
 |some ls=>
  have hz:=Nm.split_size hq;rw [hq] at hsp
  by_cases hr:0<=n∧n<=ls.length
  ·have HA:Hid (ancS s n=(⟨(Nm.joinL (ls.drop n.toNat)).toArray⟩,0)):=by show _=_;simp [ancS,hq,hr]
   clear hq;obtain⟨h0,h1⟩:=hr;obtain⟨k,rfl⟩:=Int.eq_ofNat_of_zero_le h0;go_enter Tryz.func87,Tryz.ntmps87;go_wp2_with fail
   refine hsp.mono ?_;rintro e w1 ⟨v,rfl,hown,hbel⟩;have hrow:=Nm.SRow.of_owns hown;obtain⟨a,cap,rfl,hcap,hmx,hnl,hc⟩:=hrow;simp only [Option.getD_some] at hown;have hd1:=fun e:cap=k=>(Nm.SRow.of_owns hown).drop_all e
   have hd2:=(Nm.SRow.of_owns hown).drop (k:=k) (by omega);have hwd:=Nm.wsum_drop_le ls k;have hkd:decide ((k:Int)<0)=false:=by simp
   clear hown hc
   by_cases hck:cap=k
   ·have hd:=hd1 hck;clear hd1 hd2;subst hck;go_wp2_with fail
    refine(l01Join_any _ (ls.drop cap) _ hd (by omega)).mono ?_;rintro e w2 ⟨rfl,hbel2⟩;go_wp2;go_ret2;rw [HA.out];exact⟨rfl,Nm.below_two hbel hbel2⟩
   ·clear hd1;go_wp2_with fail
    refine(l01Join_any _ (ls.drop k) _ hd2 (by omega)).mono ?_;rintro e w2 ⟨rfl,hbel2⟩;go_wp2;go_ret2;rw [HA.out];exact⟨rfl,Nm.below_two hbel hbel2⟩
  ·have HA:Hid (ancS s n=(ByteArray.empty,32)):=by show _=_;simp only [ancS,hq];rw [if_neg hr]
   clear hq;go_enter Tryz.func87,Tryz.ntmps87;go_wp2_with fail
   refine hsp.mono ?_;rintro e w1 ⟨v,rfl,hown,hbel⟩;obtain⟨a,cap,rfl,hcap,hmx,hnl,hc⟩:=Nm.SRow.of_owns hown;simp only [Option.getD_some] at hown hcap hc
   by_cases h0:n<0
   ·have hd:decide (n<0)=true:=by simp [h0]
    go_wp2;go_ret2;rw [HA.out];exact⟨rfl,hbel⟩
   ·have hd:decide (n<0)=false:=by simp;omega
    have hgt:(ls.length:Int)<n:=by omega
    go_wp2;go_ret2;rw [HA.out];exact⟨rfl,hbel⟩
end Go.Proofs.YtcodajnebegdiaaGreat
namespace Go.Proofs.YtcodajnebegdiaaGreat
open Go.RowKit
set_option linter.unusedVariables false
theorem cloZ_stop{th:ByteArray->Bool}{y:List ByteArray}(h:th (joB y)=true):cloZ th y=y:=by
 cases y with
 |nil=>rfl
 |cons x xs=>rw [cloZ,if_pos h]
theorem cloZ_go{th:ByteArray->Bool}{y:List ByteArray}(h:th (joB y)=false)(hex:∃ j,j<=y.length∧th (joB (y.drop j))=true):0<y.length∧cloZ th y=cloZ th (y.drop 1)∧∃ j,j<=(y.drop 1).length∧th (joB ((y.drop 1).drop j))=true:=by
 obtain⟨j,hj,ht⟩:=hex
 cases j with
 |zero=>rw [List.drop_zero,h] at ht;cases ht
 |succ j=>
  cases y with
  |nil=>simp at hj
  |cons x xs=>
   refine⟨by simp,?_,j,by simpa using hj,by simpa using ht⟩;rw [cloZ,if_neg (by rw [h];decide)];rfl
theorem anc_jo{name:ByteArray}{lab:List ByteArray}(h:Nm.split name=some lab){k:Nat}(hk:k<=lab.length):ancS name k=(joB (lab.drop k),0):=by
 rw [ancS,h]
 show(if _ then _ else _)=_
 rw [if_pos (by constructor<;>omega)];simp [joB]
theorem jo_ne(ls:List ByteArray):joB ls≠⟨#[]⟩:=by
 intro e;have h:=congrArg ByteArray.size e;simp [joB,ByteArray.size,Nm.joinL] at h
theorem ba_pos{a:ByteArray}(h:a≠⟨#[]⟩):0<a.size:=Nat.pos_of_ne_zero fun e=>h (by
 cases a with|mk d=>
 congr
 exact Array.eq_empty_of_size_eq_zero e)
set_option maxRecDepth 100000 in
set_option maxHeartbeats 3200000 in
theorem l06Node_any(o name:ByteArray)(lab:List ByteArray)(v:Value)(ps:List Zp)(w:World)(h:ZRow w v ps)(hl:ps.length<=1048576)(hf:∀ p∈ps,p.1.own.size<=1048576)(hn:Nm.split name=some lab)(ho:o.size<=maxLen)(hex:isUnderS name o=true->∃ j,j<=lab.length∧thZ ps o (joB (lab.drop j))=true):
 Calls Tryz.prog 40 #[.agg #[.string o,v],.string name] w (NdV (ndZ ps o name) w):=by
 obtain⟨va,vc,rfl⟩:∃ va vc,v=.slice va ps.length vc:=by obtain⟨⟨_,a,c,e,_⟩,_⟩:=h;exact⟨a,c,e⟩
 have hgl:=gl_split hn;have hns:name.size<=255:=(Nm.split_size hn).2;have hll:lab.length<=254:=Nat.le_trans (Nm.length_le_wsum lab) hgl.2;have b0:=(Below.refl w.heap.size w).alloc (Nat.le_refl _) (.cells #[.string o,.slice va ps.length vc] 32);have b1:=b0.alloc b0.size (.cells #[.int .i64 0,.string ⟨#[]⟩,.string ⟨#[]⟩,.slice none 0 0] 74);have k1:=blk_alloc (blk_new w #[.string o,.slice va ps.length vc] 32) (.cells #[.int .i64 0,.string ⟨#[]⟩,.string ⟨#[]⟩,.slice none 0 0] 74);have kN:=blk_new (w.alloc (.cells #[.string o,.slice va ps.length vc] 32)) #[.int .i64 0,.string ⟨#[]⟩,.string ⟨#[]⟩,.slice none 0 0] 74;rw [World.size_alloc] at kN;have sN:=NdS.start kN (Nat.le_succ _) b1 (Below.refl _ _);have kZ:=blk_alloc k1 (.cells #[.int .i64 0,.string ⟨#[]⟩,.string ⟨#[]⟩,.slice none 0 0] 74);rw [World.size_alloc,World.size_alloc] at sN;have HU:=Nm.hide (fun W=>specIsUnder_any name o W (by unfold maxLen;omega) ho)
 have HA:Hid (∀ (k:Nat),k<=lab.length->∀ W,Calls Tryz.prog 87 #[.string name,.int .i64 k] W fun e w'=>e=.returned (.tuple #[.string (joB (lab.drop k)),.int .i64 0])∧Below W.heap.size W w'):=fun k hk W=>by
  have:=specAncestor_any name k W (by unfold maxLen;omega)
  rwa [anc_jo hn hk] at this
 have HT:Hid (∀ (k:Nat) W,Below w.heap.size w W->Calls Tryz.prog 46 #[.agg #[.string o,.slice va ps.length vc],.string (joB (lab.drop k))] W fun e w'=>e=.returned (.bool (thZ ps o (joB (lab.drop k))))∧Below W.heap.size W w'):=fun k W hW=>l06There_any o _ _ ps W (h.below hW) hf (by have:=jo_size (hgl.drop k);unfold maxLen;omega) ho
 have HX:Hid (∀ W,Below w.heap.size w W->Calls Tryz.prog 88 #[.agg #[.string o,.slice va ps.length vc],.string name] W fun e w'=>e=.returned (.string (cutZ (ps.map (·.1)) o name))∧Below W.heap.size W w'):=fun W hW=>l06Cut_any o name _ ps W (h.below hW) hf (by unfold maxLen;omega) ho
 have HY:Hid (∀ W,Below w.heap.size w W->Calls Tryz.prog 89 #[.agg #[.string o,.slice va ps.length vc],.string name] W fun e w'=>∃ u,e=.returned u∧w'.ownsRow W.heap.size 2 1 u (typZ (ps.map (·.1)) name).length (intCells (typZ (ps.map (·.1)) name))∧Below W.heap.size W w'):=fun W hW=>l06Types_any o name _ ps W (h.below hW) hl hf (by unfold maxLen;omega)
 have HTL:Hid ((typZ (ps.map (·.1)) name).length<=1048576):=by have h1:=typZ_len (ps.map (·.1)) name;rw [List.length_map] at h1;exact Nat.le_trans h1 hl
 have HSm:=Nm.hide (fun(x:ByteArray) (hx:x.size<=1048576) W=>specSameName_any x name W (by unfold maxLen;omega) (by unfold maxLen;omega))
 have HCS:Hid ((cutZ (ps.map (·.1)) o name).size<=1048576):=by
  show _<=_
  rcases cutZ_cases o name (fun s hs=>cand_ne hs) (ps.map (·.1)) with⟨z1,-⟩|⟨z,hz,z1,-⟩
  ·rw [z1];decide
  ·obtain⟨p,hp,rfl⟩:=List.mem_map.1 hz;rw [z1];exact hf p hp
 obtain⟨R,hR⟩:∃ R,R=ndZ ps o name:=⟨_,rfl⟩;rw [<- hR];rw [ndZ,hn] at hR;have hu0:=HU.out;have rz:=fun i=>blk_cell kZ i
 have rn:=fun i=>blk_cell sN.k i
 have fn:=fun i=>blk_frozen sN.k i
 clear h hf k1 kN b0 b1
 cases hub:isUnderS name o with
 |false=>
  rw [hub] at hR hu0;have hR0:R=⟨0,⟨#[]⟩,⟨#[]⟩,[]⟩:=hR;subst hR0;clear hub hR HA HT HX HY HSm HCS hex;go_enter Tryz.func40,Tryz.ntmps40;go_wp2_with fail
  refine(hu0 _).mono ?_;rintro e w1 ⟨rfl,b1⟩;have s0:=sN.below b1;have rp:=fun i=>blk_cell s0.k i
  have fz:=fun i=>blk_frozen s0.z i
  have rzz:=fun i=>blk_cell s0.z i
  obtain⟨k4,hP⟩:=s0.done;have rk:=fun i=>blk_cell k4 i
  have HP:=Nm.hide hP;clear s0 k4 hP sN kZ rz rn fn;go_wp2_with fail
  refine bodyPost_ret (v:=.agg #[.int .i64 0,.string ⟨#[]⟩,.string ⟨#[]⟩,.slice none 0 0]) ?_ rfl HP.out
  simp [results,Tryz.f40,go_sem,rk]
 |true=>
  rw [hub] at hR hu0;simp only [if_true,Option.getD_some] at hR;have HR:=Nm.hide hR;have HEX:=Nm.hide (hex hub);clear hub hR hex;go_enter Tryz.func40,Tryz.ntmps40;go_wp2_with fail
  refine(hu0 _).mono ?_;rintro e w1 ⟨rfl,b1⟩;have s1:=sN.below b1;have kZ1:=blk_below kZ b1;clear sN kZ rz rn fn hu0 b1;go_wp2
  go_loopw [6] (fun i wr=>∃ (k:Nat) (cb:ByteArray),i=.int .i64 k∧NdS w wr (w.heap.size+1) (w.heap.size+1+1) (.int .i64 0) (.string cb) (.string ⟨#[]⟩) (.slice none 0 0) []∧Blk wr w.heap.size #[.string o,.slice va ps.length vc] 32∧((cb=⟨#[]⟩∧k<=lab.length∧Hid (cloZ (thZ ps o) (lab.drop k)=cloZ (thZ ps o) lab∧∃ j,j<=(lab.drop k).length∧thZ ps o (joB ((lab.drop k).drop j))=true))∨cb=joB (cloZ (thZ ps o) lab))) (fun i _=>lab.length+1-(intOf i).toNat)
  case atStart=>exact⟨0,⟨#[]⟩,rfl,s1,kZ1,.inl ⟨rfl,Nat.zero_le _,rfl,HEX.out⟩⟩
  case round=>
   clear s1 kZ1 HEX;obtain⟨k,cb,rfl,sk,kz,hst⟩:=hrel;have rn:=fun i=>blk_cell sk.k i
   have fn:=fun i=>blk_frozen sk.k i
   have rz:=fun i=>blk_cell kz i
   rcases hst with⟨rfl,hk,HJ⟩|rfl
   ·have ha:=HA.out k hk wr;have HT:=Nm.hide (HT.out k);have HTS:Hid (thZ ps o (joB (lab.drop k))=true->joB (lab.drop k)=joB (cloZ (thZ ps o) lab)):=fun h=>by rw [<- HJ.out.1,cloZ_stop h]
    have HTG:Hid (thZ ps o (joB (lab.drop k))=false->k+1<=lab.length∧(cloZ (thZ ps o) (lab.drop (k+1))=cloZ (thZ ps o) lab∧∃ j,j<=(lab.drop (k+1)).length∧thZ ps o (joB ((lab.drop (k+1)).drop j))=true)):=fun h=>by
     obtain⟨g1,g2,g3⟩:=cloZ_go h HJ.out.2;rw [List.length_drop] at g1;rw [List.drop_drop] at g2 g3;exact⟨by omega,by rw [<- g2];exact HJ.out.1,g3⟩
    clear HJ;generalize joB (lab.drop k)=JB at*;go_wp2_with fail
    refine ha.mono ?_;rintro e w2 ⟨rfl,b2⟩;have s2:=sk.below b2;have kz2:=blk_below kz b2;have rz2:=fun i=>blk_cell kz2 i
    have ht:=HT.out _ s2.be;clear sk kz rn fn rz b2 ha HT
    cases hth:thZ ps o JB with
    |true=>
     rw [hth] at ht;have HJ:=Nm.hide (HTS.out hth);clear hth HTS HTG;go_wp2_with fail
     refine ht.mono ?_;rintro e w3 ⟨rfl,b3⟩;have s3:=s2.below b3;have s4:=s3.set1 (y:=.string JB);have fn:=fun i=>blk_frozen s3.k i
     have rn:=fun i=>blk_cell s3.k i
     have kz4:=blk_far (i:=1) (v:=.string JB) (blk_below kz2 b3) (c:=w.heap.size+1+1) (by omega);clear s2 s3 kz2 rz2 b3 ht;go_wp2;go_roundw
     case rel=>exact⟨k+1,JB,by go_num,s4,kz4,.inr HJ.out⟩
     case measure=>simp [intOf];omega
    |false=>
     rw [hth] at ht;have HJ:=Nm.hide (HTG.out hth);clear hth HTS HTG;go_wp2_with (go_at_call 46;refine ht.mono ?_;rintro e w3 ⟨rfl,b3⟩)
     go_roundw
     case rel=>exact⟨k+1,⟨#[]⟩,by go_num,s2.below b3,blk_below kz2 b3,.inl ⟨rfl,HJ.out.1,HJ.out.2⟩⟩
     case measure=>simp [intOf];omega
   ·have hne:=jo_ne (cloZ (thZ ps o) lab);generalize joB (cloZ (thZ ps o) lab)=CB at*;obtain⟨m1,m2⟩:=not_empty (s:=CB) (ba_pos hne);have hx:=HX.out _ sk.be;have hHR:=HR.out;clear HA HT hne HU HX;generalize cutZ (ps.map (·.1)) o name=CX at*;go_wp2_with fail
    refine hx.mono ?_;rintro e w2 ⟨rfl,b2⟩;have s2:=sk.below b2;have s3:=s2.set2 (y:=.string CX);have fn2:=fun i=>blk_frozen s2.k i
    have rn2:=fun i=>blk_cell s2.k i
    have kz3:=blk_far (i:=2) (v:=.string CX) (blk_below kz b2) (c:=w.heap.size+1+1) (by omega);have rz3:=fun i=>blk_cell kz3 i
    have hy:=HY.out _ s3.be;clear sk s2 kz rn fn rz b2 hx HY kz3;go_wp2_with fail
    refine hy.mono ?_;rintro e w4 ⟨u,rfl,hou,b4⟩;have s4:=s3.below b4;have s0:=s3.set3 b4 hou;obtain⟨ua,uc,eu⟩:=own_sl hou;subst eu;have fn4:=fun i=>blk_frozen s4.k i
    have rn4:=fun i=>blk_cell s4.k i
    clear s3 s4 hou b4 hy fn2 rn2 rz3;have hTL:=HTL.out;generalize typZ (ps.map (·.1)) name=TL at*;rw [kdZ] at hHR
    by_cases hcx:CX=⟨#[]⟩
    ·rw [if_neg (by simpa using hcx)] at hHR;subst hcx;have rn0:=fun i=>blk_cell s0.k i
     by_cases hty:0<TL.length
     ·rw [if_pos hty] at hHR;have i1:(0:Int)<(TL.length:Int):=by omega
      have sF:=(NdS.set0 (y:=.int .i64 3) s0);have fp:=fun i=>blk_frozen s0.k i
      have rq:=fun i=>blk_cell sF.k i
      have fz:=fun i=>blk_frozen sF.z i
      have rzz:=fun i=>blk_cell sF.z i
      obtain⟨k4,hP⟩:=sF.done;have rk:=fun i=>blk_cell k4 i
      rw [<- hHR] at hP;have HP:=Nm.hide hP;clear s0 sF k4 hP;go_wp2_with fail
      first|refine bodyPost_ret (v:=.agg #[.int .i64 3,.string CB,.string ⟨#[]⟩,(.slice ua TL.length uc)]) ?_ rfl HP.out|done
      simp [results,Tryz.f40,go_sem,rk]
     ·rw [if_neg hty] at hHR;obtain rfl:TL=[]:=List.length_eq_zero_iff.1 (by omega);simp only [List.length_nil] at s0 fn4 rn4 rn0 ⊢;have e0:=ba_eq CB name
      by_cases hcn:CB=name
      ·rw [if_pos hcn] at hHR;rw [decide_eq_true hcn] at e0;clear hcn;have sF:=(NdS.set0 (y:=.int .i64 2) s0);have fp:=fun i=>blk_frozen s0.k i
       have rq:=fun i=>blk_cell sF.k i
       have fz:=fun i=>blk_frozen sF.z i
       have rzz:=fun i=>blk_cell sF.z i
       obtain⟨k4,hP⟩:=sF.done;have rk:=fun i=>blk_cell k4 i
       rw [<- hHR] at hP;have HP:=Nm.hide hP;clear s0 sF k4 hP;go_wp2_with fail
       first|refine bodyPost_ret (v:=.agg #[.int .i64 2,.string CB,.string ⟨#[]⟩,(.slice ua 0 uc)]) ?_ rfl HP.out|done
       simp [results,Tryz.f40,go_sem,rk]
      ·rw [if_neg hcn] at hHR;rw [decide_eq_false hcn] at e0;clear hcn;have sF:=(NdS.set0 (y:=.int .i64 1) s0);have fp:=fun i=>blk_frozen s0.k i
       have rq:=fun i=>blk_cell sF.k i
       have fz:=fun i=>blk_frozen sF.z i
       have rzz:=fun i=>blk_cell sF.z i
       obtain⟨k4,hP⟩:=sF.done;have rk:=fun i=>blk_cell k4 i
       rw [<- hHR] at hP;have HP:=Nm.hide hP;clear s0 sF k4 hP;go_wp2_with fail
       first|refine bodyPost_ret (v:=.agg #[.int .i64 1,.string CB,.string ⟨#[]⟩,(.slice ua 0 uc)]) ?_ rfl HP.out|done
       simp [results,Tryz.f40,go_sem,rk]
    ·rw [if_pos hcx] at hHR;obtain⟨m3,m4⟩:=not_empty (s:=CX) (ba_pos hcx);have hsm:=HSm.out CX HCS.out;have rn0:=fun i=>blk_cell s0.k i
     have s9:=s0;clear s0 hcx
     cases hsb:sameS CX name with
     |true=>
      rw [hsb] at hsm;rw [if_pos hsb] at hHR;clear hsb;go_wp2_with fail
      refine(hsm _).mono ?_;rintro e w5 ⟨rfl,b5⟩;have s0:=s9.below b5;clear s9 b5 fn4 rn4 rn0;have rn0:=fun i=>blk_cell s0.k i
      have sF:=(NdS.set0 (y:=.int .i64 4) s0);have fp:=fun i=>blk_frozen s0.k i
      have rq:=fun i=>blk_cell sF.k i
      have fz:=fun i=>blk_frozen sF.z i
      have rzz:=fun i=>blk_cell sF.z i
      obtain⟨k4,hP⟩:=sF.done;have rk:=fun i=>blk_cell k4 i
      rw [<- hHR] at hP;have HP:=Nm.hide hP;clear s0 sF k4 hP;go_wp2_with fail
      first|refine bodyPost_ret (v:=.agg #[.int .i64 4,.string CB,.string CX,(.slice ua TL.length uc)]) ?_ rfl HP.out|done
      simp [results,Tryz.f40,go_sem,rk]
     |false=>
      rw [hsb] at hsm;rw [if_neg (by rw [hsb];decide)] at hHR;clear hsb;go_wp2_with fail
      refine(hsm _).mono ?_;rintro e w5 ⟨rfl,b5⟩;have s0:=s9.below b5;clear s9 b5 fn4 rn4 rn0;have rn0:=fun i=>blk_cell s0.k i
      have sF:=(NdS.set0 (y:=.int .i64 5) s0);have fp:=fun i=>blk_frozen s0.k i
      have rq:=fun i=>blk_cell sF.k i
      have fz:=fun i=>blk_frozen sF.z i
      have rzz:=fun i=>blk_cell sF.z i
      obtain⟨k4,hP⟩:=sF.done;have rk:=fun i=>blk_cell k4 i
      rw [<- hHR] at hP;have HP:=Nm.hide hP;clear s0 sF k4 hP;go_wp2_with fail
      first|refine bodyPost_ret (v:=.agg #[.int .i64 5,.string CB,.string CX,(.slice ua TL.length uc)]) ?_ rfl HP.out|done
      simp [results,Tryz.f40,go_sem,rk]
end Go.Proofs.YtcodajnebegdiaaGreat
