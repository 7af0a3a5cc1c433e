import Derived.Test.YtieobflhfcgliaaGreatJBig1
import Derived.Test.YtieobflhfcgliaaGreatJCzO
import Derived.Test.YtieobflhfcgliaaGreatJCzC
import Derived.Test.YtieobflhfcgliaaGreatJStR
namespace Go.Proofs.YtieobflhfcgliaaGreat
open Go.RowKit
set_option linter.unusedVariables false
abbrev cgV(a b:Rr)(d e:Value):Value:=.agg #[.string a.own,.int .i64 a.ty,.int .i64 a.cl,.int .i64 a.tt,.string a.da,.string b.own,.int .i64 b.ty,.int .i64 b.cl,.int .i64 b.tt,.string b.da,d,e]
def COwn(w:World)(B:Nat)(d e:Value)(xs ys:List Rr):Prop:=∃ M,B<=M∧w.ownsRow B 27 5 d xs.length (rvVs xs)∧w.ownsRow M 27 5 e ys.length (rvVs ys)∧∀ g,d.ownBlock=some g->g<M
theorem partSOA_rest(o:ByteArray)(v:Value)(ps:List Zp)(r:Rr)(k:Nat)(R:List Rr)(w:World)(h:ZRow w v ps)(hs:zsum ps<=1048576)(hf:∀ p∈ps,∀ x∈p.1.da,x.size<=1048576)(hrk:(zoneRecs ps)[k]? =some r)(hsk:soI (zoneRecs ps)=(k:Int))(hn:(zoneRecs ps).length<=500)(he:(zoneRecs ps).take k++(zoneRecs ps).drop (k+1)=R):
 Calls Tryz.prog 55 #[.agg #[.string o,v]] w fun e w'=>∃ (ua:Option Addr) (uc:Nat),e=.returned (.tuple #[rvA r,.slice ua R.length uc])∧w'.ownsRow w.heap.size 27 5 (.slice ua R.length uc) R.length (rvVs R)∧Below w.heap.size w w':=by
 refine(partSOA_row o v ps r k w h hs hf hrk hsk hn).mono ?_;rintro e w' ⟨ua,uc,rfl,ho,hb⟩;rw [he] at ho;obtain⟨a,c,e⟩:=own_sl ho;rw [e] at ho ⊢;exact⟨a,c,rfl,ho,hb⟩
theorem own_setA{B e s n g:Nat}{v:Value}{xs:List Value}(hg:g<B):∀ (vs:List Value) (i:Nat) (W:World),W.ownsRow B e s v n xs->(setAll W g i vs).ownsRow B e s v n xs
 |[],_,_,h=>h
 |y::vs,i,W,h=>own_setA hg vs (i+1) _ (own_far_lt h hg)
theorem below_setA{B g:Nat}{w:World}(hg:B<=g):∀ (vs:List Value) (i:Nat) (W:World),Below B w W->Below B w (setAll W g i vs)
 |[],_,_,h=>h
 |y::vs,i,W,h=>below_setA hg vs (i+1) _ (h.setCell hg _)
abbrev cgL(a b:Rr)(d e:Value):List Value:=[.string a.own,.int .i64 a.ty,.int .i64 a.cl,.int .i64 a.tt,.string a.da,.string b.own,.int .i64 b.ty,.int .i64 b.cl,.int .i64 b.tt,.string b.da,d,e]
def rr0:Rr:=⟨⟨#[]⟩,0,0,0,⟨#[]⟩⟩
def soaOf(ps:List Zp):Rr:=((zoneRecs ps).find? is6).getD rr0
theorem cown_nil(w:World)(B:Nat):COwn w B (.slice none 0 0) (.slice none 0 0) [] []:=⟨B,Nat.le_refl _,World.ownsRow_nil _ _ _ _,World.ownsRow_nil _ _ _ _,fun g h=>by cases h⟩
theorem COwn.below{w w':World}{B:Nat}{d e:Value}{xs ys:List Rr}(h:COwn w B d e xs ys)(hb:Below w.heap.size w w'):COwn w' B d e xs ys:=by
 obtain⟨M,h1,h2,h3,h4⟩:=h;exact⟨M,h1,own_below h2 hb,own_below h3 hb,h4⟩
theorem COwn.sl{w:World}{B:Nat}{d e:Value}{xs ys:List Rr}(h:COwn w B d e xs ys):(∃ a c,d=.slice a xs.length c)∧∃ a c,e=.slice a ys.length c:=by
 obtain⟨M,h1,h2,h3,h4⟩:=h;exact⟨own_sl h2,own_sl h3⟩
theorem name_ofZ{ps:List Zp}{o:ByteArray}(hz:zOK ps o=true):∃ al,Nm.split o=some al:=by
 have h0:=(zOK_recs hz).1;rw [bldE] at h0
 split at h0
 ·cases h0
 ·rename_i h1
  cases e:Nm.split o with
  |none=>rw [e] at h1;exact absurd rfl h1
  |some al=>exact⟨al,rfl⟩
theorem zOK_len{ps:List Zp}{o:ByteArray}(hz:zOK ps o=true):(zoneRecs ps).length<=500:=by
 have h0:=(zOK_recs hz).1;obtain⟨al,ha⟩:=name_ofZ hz;rw [bldE,if_neg (by rw [ha];simp)] at h0
 split at h0
 ·cases h0
 ·rename_i h1;omega
end Go.Proofs.YtieobflhfcgliaaGreat
