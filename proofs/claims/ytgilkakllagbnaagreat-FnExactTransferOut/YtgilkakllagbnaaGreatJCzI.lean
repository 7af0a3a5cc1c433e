import Derived.Test.YtgilkakllagbnaaGreatJCzE
import Derived.Test.YtgilkakllagbnaaGreatJTzM
import Derived.Test.YtgilkakllagbnaaGreatJStB
import Derived.Test.YtgilkakllagbnaaGreatPzG
import Derived.Test.YtgilkakllagbnaaGreatJTiN
import Derived.Test.YtgilkakllagbnaaGreatJTbGI
namespace Go.Proofs.YtgilkakllagbnaaGreat
open Go.RowKit
set_option linter.unusedVariables false
set_option maxRecDepth 100000 in
set_option maxHeartbeats 800000 in
theorem implCheckZone_any(o:ByteArray)(v:Value)(ps:List Zp)(w:World)(h:ZRow w v ps)(hs:zsum ps<=1048576)(hf:∀ p∈ps,p.1.own.size<=1048576∧∀ x∈p.1.da,x.size<=1048576)(ha:o.size<=1000000000):
 Calls Tryz.prog 25 #[.agg #[.string o,v]] w fun e w'=>e=.returned (.int .i64 (if zOK ps o=true then 0 else 32))∧Below w.heap.size w w':=by
 have k0:=blk_new w #[.string o,v] 33;have b0:=(Below.refl w.heap.size w).alloc (Nat.le_refl _) (.cells #[.string o,v] 33);have ho:=openZone_any o v ps _ (h.below b0) hs hf ha;obtain⟨va,vc,rfl⟩:∃ va vc,v=.slice va ps.length vc:=by obtain⟨⟨_,a,c,e,_⟩,_⟩:=h;exact⟨a,c,e⟩
 have r0:=fun i=>blk_cell k0 i
 obtain⟨CZ,hCZ⟩:∃ CZ:Int,CZ=if zOK ps o=true then 0 else 32:=⟨_,rfl⟩
 rw [<- hCZ];have HCZ:=Nm.hide hCZ;clear h hf hs hCZ;go_enter Tryz.func25,Tryz.ntmps25;go_wp2_with fail
 refine ho.mono ?_;rintro e w1 ⟨b1,⟨hz,rfl⟩|⟨hz,bb,lv,th,ys,aa,ac,labv,rv,os,kv,ks,B,rfl,hP⟩⟩
 ·have hC:CZ=32:=by rw [HCZ.out,hz];rfl
  clear HCZ hz ho;subst hC;go_wp2;go_ret;exact⟨rfl,Nm.below_two b0 b1⟩
 ·have hC:CZ=0:=by rw [HCZ.out,hz];rfl
  clear HCZ hz ho hP;subst hC;go_wp2;go_ret;exact⟨rfl,Nm.below_two b0 b1⟩
def rr0:Rr:=⟨⟨#[]⟩,0,0,0,⟨#[]⟩⟩
def soaOf(ps:List Zp):Rr:=((zoneRecs ps).find? is6).getD rr0
theorem cown_nil(w:World)(B:Nat):COwn w B (.slice none 0 0) (.slice none 0 0) [] []:=⟨B,Nat.le_refl _,World.ownsRow_nil _ _ _ _,World.ownsRow_nil _ _ _ _,fun g h=>by cases h⟩
theorem COwn.sl{w:World}{B:Nat}{d e:Value}{xs ys:List Rr}(h:COwn w B d e xs ys):(∃ a c,d=.slice a xs.length c)∧∃ a c,e=.slice a ys.length c:=by
 obtain⟨M,h1,h2,h3,h4⟩:=h;exact⟨own_sl h2,own_sl h3⟩
theorem name_ofZ{ps:List Zp}{o:ByteArray}(hz:zOK ps o=true):∃ al,Nm.split o=some al:=by
 have h0:=(zOK_recs hz).1;rw [bldE] at h0
 split at h0
 ·cases h0
 ·rename_i h1
  cases e:Nm.split o with
  |none=>rw [e] at h1;exact absurd rfl h1
  |some al=>exact⟨al,rfl⟩
theorem zOK_len{ps:List Zp}{o:ByteArray}(hz:zOK ps o=true):(zoneRecs ps).length<=500:=by
 have h0:=(zOK_recs hz).1;obtain⟨al,ha⟩:=name_ofZ hz;rw [bldE,if_neg (by rw [ha];simp)] at h0
 split at h0
 ·cases h0
 ·rename_i h1;omega
section
variable {C:Int}{L:List Rr}{o oz:ByteArray}{W W':World}{B B':Nat}{vz:Value}
end
theorem row1{W:World}{g:Nat}{r:Rr}(k:Blk W g #[.string r.own,.int .i64 r.ty,.int .i64 r.cl,.int .i64 r.tt,.string r.da] 56):CRow W (.slice (some ⟨g,0,none⟩) 1 1) 1 5 (rvVs [r]):=by
 refine⟨rfl,_,_,rfl,Nat.le_refl _,by unfold maxLen;decide,fun _=>⟨g,0,rfl,fun i x hx=>?_⟩⟩;rw [Nat.zero_add];refine(blk_cell k i).trans ?_;simpa [rvVs,rvV] using hx
set_option maxRecDepth 100000 in
theorem isLong_any(x y:Rr)(da aa:Option Addr)(n m dc ac:Nat)(w:World):
 Calls Tryz.prog 30 #[cgV x y (.slice da n dc) (.slice aa m ac)] w fun e w'=>e=.returned (.bool (decide (500<n)||decide (500<m)))∧Below w.heap.size w w':=by
 have hB:=(Below.refl w.heap.size w).alloc (Nat.le_refl _) (.cells (cgL x y (.slice da n dc) (.slice aa m ac)).toArray 58)
 by_cases h:500<n
 ·have i1:(500:Int)<(n:Int):=by omega
  have e:(decide (500<n)||decide (500<m))=true:=by simp [h]
  rw [e];go_enter Tryz.func30,Tryz.ntmps30;go_wp2;go_ret;exact⟨rfl,hB⟩
 ·have i1:¬(500:Int)<(n:Int):=by omega
  have e:(decide (500<n)||decide (500<m))=decide ((500:Int)<(m:Int)):=by
   rw [decide_eq_false h,Bool.false_or];exact decide_eq_decide.2 (by omega)
  rw [e];go_enter Tryz.func30,Tryz.ntmps30;go_wp2;go_ret;exact⟨rfl,hB⟩
structure Cg where
 old:Rr
 new:Rr
 del:List Rr
 add:List Rr
abbrev Hp:Type:=Cg×Value×Value
def hpV(p:Hp):List Value:=cgL p.1.old p.1.new p.2.1 p.2.2
def hpVs(ps:List Hp):List Value:=ps.flatMap hpV
theorem hpV_len(p:Hp):(hpV p).length=12:=rfl
theorem hpVs_cons(x:Hp)(xs:List Hp):hpVs (x::xs)=hpV x++hpVs xs:=by simp [hpVs]
theorem hpVs_app(a b:List Hp):hpVs (a++b)=hpVs a++hpVs b:=by simp [hpVs]
theorem hpVs_len(xs:List Hp):(hpVs xs).length=xs.length*12:=by
 induction xs with
 |nil=>rfl
 |cons x xs ih=>rw [hpVs_cons,List.length_append,ih,List.length_cons,hpV_len];omega
theorem hpVs_at:∀ (xs:List Hp) (k j:Nat) (x:Hp),xs[k]? =some x->j<12->(hpVs xs)[k*12+j]? =(hpV x)[j]? :=by
 intro xs
 induction xs with
 |nil=>intro k j x h;simp at h
 |cons y xs ih=>
  intro k j x h hj;have hl:=hpV_len y
  cases k with
  |zero=>
   simp at h;subst h
   rw [hpVs_cons,Nat.zero_mul,Nat.zero_add,List.getElem?_append_left (by omega)]
  |succ k=>
   simp at h;rw [hpVs_cons,List.getElem?_append_right (by omega),hl,show(k+1)*12+j-12=k*12+j by omega];exact ih k j x h hj
theorem hp_cell{w:World}{xs:List Hp}{b off k:Nat}{x:Hp}(hc:∀ (i:Nat) (y:Value),(hpVs xs)[i]? =some y->w.cell? ⟨b,off+i,none⟩=some y)(h:xs[k]? =some x)(j:Nat)(y:Value)(hj:(hpV x)[j]? =some y):w.cell? ⟨b,off+k*12+j,none⟩=some y:=by
 have hl:j<12:=by have:=(List.getElem?_eq_some_iff.1 hj).1;rwa [hpV_len] at this
 rw [Nat.add_assoc];exact hc _ _ ((hpVs_at xs k j x h hl).trans hj)
def HRow(w:World)(v:Value)(ps:List Hp):Prop:=CRow w v ps.length 12 (hpVs ps)∧∀ p∈ps,CRow w p.2.1 p.1.del.length 5 (rvVs p.1.del)∧CRow w p.2.2 p.1.add.length 5 (rvVs p.1.add)
theorem HRow.below{w W:World}{v:Value}{ps:List Hp}(h:HRow w v ps)(hb:Below w.heap.size w W):HRow W v ps:=⟨h.1.below hb,fun p hp=>⟨(h.2 p hp).1.below hb,(h.2 p hp).2.below hb⟩⟩
def nxH(soa:Rr)(cs:List Cg)(i:Nat):Rr:=((cs[i+1]?).map (·.old)).getD soa
def okH(soa:Rr)(cs:List Cg)(i:Nat):Bool:=match cs[i]? with
 |some c=>eqR c.new (nxH soa cs i)
 |none=>true
def lgB(c:Cg):Bool:=decide (500<c.del.length)||decide (500<c.add.length)
def hgB(soa:Rr)(cs:List Cg):Bool:=decide (cs.length<=40)&&(List.range cs.length).all (okH soa cs)
def hisB(soa:Rr)(cs:List Cg):Bool:=hgB soa cs&& !cs.any lgB
theorem okH_at{soa:Rr}{cs:List Cg}{i:Nat}{c:Cg}(h:cs[i]? =some c):okH soa cs i=eqR c.new (nxH soa cs i):=by rw [okH,h]
theorem hg_bad{soa:Rr}{cs:List Cg}{i:Nat}{c:Cg}(h:cs[i]? =some c)(hn:eqR c.new (nxH soa cs i)=false):hgB soa cs=false:=by
 rw [hgB]
 have:(List.range cs.length).all (okH soa cs)=false:=by
  rw [Bool.eq_false_iff];intro ha;have:=List.all_eq_true.1 ha i (List.mem_range.2 (List.getElem?_eq_some_iff.1 h).1);rw [okH_at h,hn] at this;cases this
 rw [this,Bool.and_false]
theorem hg_ok{soa:Rr}{cs:List Cg}(hl:cs.length<=40)(h:∀ i,i<cs.length->okH soa cs i=true):hgB soa cs=true:=by
 rw [hgB,decide_eq_true hl,Bool.true_and,List.all_eq_true];exact fun i hi=>h i (List.mem_range.1 hi)
theorem his_long{soa:Rr}{cs:List Cg}{i:Nat}{c:Cg}(h:cs[i]? =some c)(hn:lgB c=true):hisB soa cs=false:=by
 rw [hisB,show cs.any lgB=true from List.any_eq_true.2 ⟨c,List.mem_of_getElem? h,hn⟩];simp
def cgR(c:Cg):List Rr:=[c.old]++c.del++[c.new]++c.add
def lastF(f:Nat->Bool):Nat->Option Nat
 |0=>none
 |k+1=>if f k=true then some k else lastF f k
theorem last_some{f:Nat->Bool}{i:Nat}(hi:f i=true):∀ n,i<n->(∀ j,i<j->j<n->f j=false)->lastF f n=some i:=by
 intro n
 induction n with
 |zero=>intro h;omega
 |succ n ih=>
  intro h hj;rw [lastF]
  by_cases e:i=n
  ·subst e;rw [if_pos hi]
  ·rw [if_neg (by rw [hj n (by omega) (by omega)];decide)];exact ih (by omega) fun j h1 h2=>hj j h1 (by omega)
theorem last_none{f:Nat->Bool}:∀ n,(∀ j,j<n->f j=false)->lastF f n=none:=by
 intro n
 induction n with
 |zero=>intro _;rfl
 |succ n ih=>
  intro hj;rw [lastF,if_neg (by rw [hj n (by omega)];decide)];exact ih fun j h=>hj j (by omega)
def atH(cs:List Cg)(s:Int)(i:Nat):Bool:=match cs[i]? with
 |some c=>decide (ssS c.old=s)
 |none=>false
theorem atH_at{cs:List Cg}{s:Int}{i:Nat}{c:Cg}(h:cs[i]? =some c):atH cs s i=decide (ssS c.old=s):=by rw [atH,h]
theorem ss_at{r:Rr}{s:Int}(hs:0<=s):decide (ssS r=s)=(soB r&&decide (sdS r=s)):=by
 rw [ssS]
 cases e:soB r with
 |true=>simp
 |false=>simp;omega
def outT(soa:Rr)(rest:List Rr)(cs:List Cg)(qt s:Int):List Rr:=
 if qt=252 then [soa]++rest++[soa] else if serL s (sdS soa)=false then [soa] else
 match lastF (atH cs s) cs.length with
 |some i=>[soa]++(cs.drop i).flatMap cgR++[soa]
 |none=>[soa]++rest++[soa]
def OH(w:World)(B:Nat)(v:Value)(ps:List Hp):Prop:=w.ownsRow B 58 12 v ps.length (hpVs ps)∧∀ p∈ps,w.ownsRow B 56 5 p.2.1 p.1.del.length (rvVs p.1.del)∧w.ownsRow B 56 5 p.2.2 p.1.add.length (rvVs p.1.add)
theorem OH.below{w W:World}{B:Nat}{v:Value}{ps:List Hp}(h:OH w B v ps)(hb:Below w.heap.size w W):OH W B v ps:=⟨own_below h.1 hb,fun p hp=>⟨own_below (h.2 p hp).1 hb,own_below (h.2 p hp).2 hb⟩⟩
theorem OH.read{w:World}{B:Nat}{v:Value}{ps:List Hp}(h:OH w B v ps):HRow w v ps:=⟨CRow.of_owns h.1,fun p hp=>⟨CRow.of_owns (h.2 p hp).1,CRow.of_owns (h.2 p hp).2⟩⟩
theorem OH.lt{w:World}{B:Nat}{v:Value}{ps:List Hp}(h:OH w B v ps):(∀ g,v.ownBlock=some g->g<w.heap.size)∧∀ p∈ps,(∀ g,p.2.1.ownBlock=some g->g<w.heap.size)∧∀ g,p.2.2.ownBlock=some g->g<w.heap.size:=
 ⟨fun g hg=>(h.1.lt g hg).2,fun p hp=>⟨fun g hg=>((h.2 p hp).1.lt g hg).2,fun g hg=>((h.2 p hp).2.lt g hg).2⟩⟩
theorem OH.mj{w W:World}{B C B':Nat}{v:Value}{ps:List Hp}(h:OH w B' v ps)(hv:∀ g,v.ownBlock=some g->g<B∨C<=g)(hp:∀ p∈ps,(∀ g,p.2.1.ownBlock=some g->g<B∨C<=g)∧∀ g,p.2.2.ownBlock=some g->g<B∨C<=g)(hm:Mj B C w W):OH W B' v ps:=
 ⟨own_mj h.1 hv hm,fun p q=>⟨own_mj (h.2 p q).1 (hp p q).1 hm,own_mj (h.2 p q).2 (hp p q).2 hm⟩⟩
theorem HRow.drop{w:World}{b off cap:Nat}{ps:List Hp}(h:HRow w (.slice (some ⟨b,off,none⟩) ps.length cap) ps){k:Nat}(hk:k<=ps.length):HRow w (.slice (some ⟨b,off+k*12,none⟩) (ps.length-k) (cap-k)) (ps.drop k):=by
 obtain⟨⟨h1,a,c,e,h2,h3,h4⟩,hp⟩:=h;cases e
 have hl:(ps.drop k).length=ps.length-k:=by simp
 have hd:hpVs ps=hpVs (ps.take k)++hpVs (ps.drop k):=by rw [<- hpVs_app,List.take_append_drop]
 have ht:(hpVs (ps.take k)).length=k*12:=by rw [hpVs_len,List.length_take,Nat.min_eq_left hk]
 refine⟨⟨by rw [hpVs_len],_,_,by rw [hl],by rw [hl];omega,by omega,fun hp0=>⟨b,off+k*12,rfl,fun i y hy=>?_⟩⟩,fun p hm=>hp p (List.mem_of_mem_drop hm)⟩;rw [hl] at hp0;obtain⟨b',off',e',hcell⟩:=h4 (by omega);cases e'
 rw [Nat.add_assoc];refine hcell (k*12+i) y ?_;rw [hd,List.getElem?_append_right (by omega),ht,Nat.add_sub_cancel_left];exact hy
end Go.Proofs.YtgilkakllagbnaaGreat
