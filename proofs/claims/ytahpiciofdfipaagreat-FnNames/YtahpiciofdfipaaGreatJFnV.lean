import Derived.Test.YtahpiciofdfipaaGreatJBzD
import Derived.Test.YtahpiciofdfipaaGreatJCmpM
import Derived.Test.YtahpiciofdfipaaGreatJTrD
import Derived.Test.YtahpiciofdfipaaGreatJTrM
import Derived.Test.YtahpiciofdfipaaGreatJBzC
import Derived.Test.YtahpiciofdfipaaGreatJTiN
import Derived.Test.YtahpiciofdfipaaGreatJBzY
import Derived.Test.YtahpiciofdfipaaGreatZbZ
import Derived.Test.YtahpiciofdfipaaGreatJUnderM
namespace Go.Proofs.YtahpiciofdfipaaGreat
open Go.RowKit
set_option linter.unusedVariables false
def cutT(os:List GOw)(lab:List ByteArray):Nat->Option GOw
 |0=>none
 |n+1=>if hasT (lab.drop n) 2 os=true then os[posOf (oCmp (lab.drop n)) os]? else cutT os lab n
def cutV:Option GOw->Value
 |some o=>.tuple #[ptr o.blk,.bool true]
 |none=>.tuple #[.pointer none,.bool false]
set_option maxRecDepth 100000 in
set_option maxHeartbeats 1600000 in
theorem treeCut_any(bb oo th:Nat)(rv:Value)(os:List GOw)(B:Nat)(na:Option Addr)(nc:Nat)(lab:List ByteArray)(aa:Option Addr)(an ac:Nat)(w:World)(h:TrAt w B th rv os)(hl:os.length<=500000)(hd:TrS os)(hLab:LabAt w (fpT th rv os) os)(hn:Nm.SRow w (.slice na lab.length nc) lab)(hnl:lab.length<=1000)(hc:w.cell? ⟨bb,oo+1,none⟩=some (ptr th))(hca:w.cell? ⟨bb,oo,none⟩=some (.slice aa an ac))(hbb:bb<w.heap.size)(han:an<=lab.length):
 Calls Tryz.prog 56 #[.pointer (some ⟨bb,oo,none⟩),.slice na lab.length nc] w fun e w'=>e=.returned (cutV (cutT os lab (lab.length-an)))∧Below w.heap.size w w':=by
 have HG:Hid (∀ W,Below w.heap.size w W->∀ a n c y,Nm.SRow W (.slice a n c) y->y.length<=1000->Calls Tryz.prog 54 #[ptr th,.slice a n c] W fun e w'=>Below W.heap.size W w'∧((isIn (oCmp y) os=true∧∃ o,os[posOf (oCmp y) os]? =some o∧Nm.cmpLs o.lab y=0∧e=.returned (.tuple #[ptr o.blk,.bool true]))∨(isIn (oCmp y) os=false∧e=.returned (.tuple #[.pointer none,.bool false])))):=fun W hW a n c y hy hyl=>getOwner_any th rv os B (.slice a n c) y W (h.below hW) hl hd.1 (fun o ho=>(hLab o ho).outs (Outs.below hW) (fun b hb=>.inl hb)) hy (by omega)
 have HH:Hid (∀ o∈os,∀ W,Below w.heap.size w W->Calls Tryz.prog 92 #[ptr o.blk,.int .i64 2] W fun e w'=>e=.returned (.bool (isIn (sCmp 2) o.ss))∧Below W.heap.size W w'):=fun o ho W hW=>ownerHas_any o B 2 W ((h.below hW).owners o ho) (by have:=(hd.2 o ho).2.1;omega) (hd.2 o ho).1
 have HC:Hid (∀ W,Below w.heap.size w W->W.cell? ⟨bb,oo+1,none⟩=some (ptr th)):=fun W hW=>by rw [<- hc];exact hW.cell (p:=⟨bb,oo+1,none⟩) hbb
 have HS:=Nm.hide hn;unfold ptr at HG HH HC;have hcn:lab.length<=nc:=by obtain⟨a',c',e2,h1,_⟩:=hn;simp only [Value.slice.injEq] at e2;omega
 obtain⟨R,hR⟩:∃ R,R=cutT os lab (lab.length-an):=⟨_,rfl⟩;rw [<- hR];have HR:=Nm.hide hR;clear h hd hLab hc hn hR;have e1:(lab.length:Int)-(an:Int)-1=(((lab.length-an:Nat):Int))-1:=by omega
 have HE1:=Nm.hide e1;clear e1;go_enter Tryz.func56,Tryz.ntmps56;go_wp2
 go_loopw [6] (fun i wr=>∃ n:Nat,n<=lab.length∧i=.int .i64 ((n:Int)-1)∧cutT os lab n=R∧Below w.heap.size w wr) (fun i _=>(intOf i+1).toNat)
 case atStart=>exact⟨lab.length-an,by omega,by rw [<- HE1.out],HR.out.symm,Below.refl _ _⟩
 case round=>
  obtain⟨n,hnn,rfl,hcR,hbel⟩:=hrel
  cases n with
  |zero=>
   have HQ:Hid (R=none):=by show _=_;rw [<- hcR];rfl
   have i0:((0:Nat):Int)-1<0:=by omega
   clear hcR;go_wp2;go_ret2
   exact⟨by rw [HQ.out];rfl,hbel⟩
  |succ n=>
   have e2:((n+1:Nat):Int)-1=(n:Int):=by omega
   rw [e2];have HCR:=Nm.hide hcR;have i0:(0:Int)<=(n:Int):=by omega
   have i1:(n:Int)<=(lab.length:Int):=by omega
   have i2:n<nc:=by omega
   clear hcR e2;obtain⟨b,off,cap,ev⟩:=srow_atT HS.out (by omega);simp only [Value.slice.injEq,true_and] at ev;obtain⟨rfl,rfl⟩:=ev
   have hsr:Nm.SRow wr.drew (.slice (some ⟨b,off+n,none⟩) (lab.length-n) (nc-n)) (lab.drop n):=by
    have:=(HS.out.drop (k:=n) (by omega)).below hbel.drew;simp only [Option.map_some,Nm.addr_add] at this;exact this
   have i3:¬nc=n:=by omega
   have hc1:=HC.out _ hbel;go_wp2;refine wp_region_last (fun X=>X.cell? ⟨bb,oo+1,none⟩=some (.pointer (some ⟨th,0,none⟩))) 1000 (by kernel_rfl) (HC.out _ hbel.drew) (fun hHeld=>?_);refine tkA 0 rfl ?_;refine tkA 1 rfl ?_;refine tkA 2 rfl ?_;refine tkA 3 rfl ?_;refine tkA 4 rfl ?_;refine tkA 5 rfl ?_;refine tkA 6 rfl ?_;refine wpAnyL_one (i:=7) (by kernel_rfl) rfl (fun K hK=>?_);go_simp
   try simp only [if_neg i3]
   refine(HG.out _ hbel.drew _ _ _ (lab.drop n) hsr (by simp;omega)).mono ?_;rintro e w1 ⟨b1,⟨hin,o,ho,hcm,rfl⟩|⟨hin,rfl⟩⟩
   ·have hbel1:=Nm.below_two hbel.drew b1;have hom:=List.mem_of_getElem? ho;have hhas:=HH.out o hom w1 hbel1
    have HT:Hid (cutT os lab (n+1)=if isIn (sCmp 2) o.ss=true then some o else cutT os lab n):=by
     show _=_
     rw [cutT,hasT,ho];simp only [hin,Bool.true_and]
    clear ho hcm hin hom b1;go_wp2_with fail
    refine hK.out _ _ (HC.out _ hbel1) (fun hH=>?_);clear hK K;refine tkA 8 rfl ?_;refine tkA 9 rfl ?_;refine tkA 10 rfl ?_;refine wpAnyL_one (i:=11) (by kernel_rfl) rfl (fun K hK=>?_);go_simp;refine hK.out _ _ (HC.out _ hbel1) (fun hH2=>?_);clear hK K;refine wpAnyL_one (i:=12) (by kernel_rfl) rfl (fun K hK=>?_);go_simp;refine hK.out _ _ (HC.out _ hbel1) (fun hH3=>?_);clear hK K;refine wpAnyL_done (by kernel_rfl) ?_;clear hH hH2 hH3 hHeld hc1 hsr
    cases hi:isIn (sCmp 2) o.ss with
    |true=>
     rw [hi] at hhas;have HQ:Hid (R=some o):=by show _=_;rw [<- HCR.out,HT.out,hi];rfl
     clear hi;go_wp2_with fail
     refine hhas.mono ?_;rintro e w2 ⟨rfl,b2⟩;go_wp2;go_ret2
     exact⟨by rw [HQ.out];rfl,Nm.below_two hbel1 b2⟩
    |false=>
     rw [hi] at hhas;have HQ:Hid (cutT os lab n=R):=by show _=_;rw [<- HCR.out,HT.out,hi];rfl
     clear hi;go_wp2_with (go_at_call 92;refine hhas.mono ?_;rintro e w2 ⟨rfl,b2⟩)
     go_roundw
     case rel=>exact⟨n,by omega,by go_num,HQ.out,Nm.below_two hbel1 b2⟩
     case measure=>simp [intOf]
   ·have hbel1:=Nm.below_two hbel.drew b1
    have HQ:Hid (cutT os lab n=R):=by
     show _=_
     rw [<- HCR.out,cutT,hasT]
     cases os[posOf (oCmp (lab.drop n)) os]? with
     |none=>rfl
     |some o=>simp [hin]
    clear hin b1;go_wp2_with fail
    refine hK.out _ _ (HC.out _ hbel1) (fun hH=>?_);clear hK K;refine tkA 8 rfl ?_;refine tkA 9 rfl ?_;refine tkA 10 rfl ?_;refine wpAnyL_one (i:=11) (by kernel_rfl) rfl (fun K hK=>?_);go_simp;refine hK.out _ _ (HC.out _ hbel1) (fun hH2=>?_);clear hK K;refine wpAnyL_one (i:=12) (by kernel_rfl) rfl (fun K hK=>?_);go_simp;refine hK.out _ _ (HC.out _ hbel1) (fun hH3=>?_);clear hK K;refine wpAnyL_done (by kernel_rfl) ?_;clear hH hH2 hH3 hHeld hc1 hsr;go_wp2;go_roundw
    case rel=>exact⟨n,by omega,by go_num,HQ.out,hbel1⟩
    case measure=>simp [intOf]
def thZ(ps:List Zp)(o name:ByteArray):Bool:=isUnderS name o&&ps.any fun p=>isUnderS p.1.own name
structure Nd where
 kd:Int
 clo:ByteArray
 cut:ByteArray
 ty:List Int
def nd0:Nd:=⟨0,⟨#[]⟩,⟨#[]⟩,[]⟩
def labN(x:ByteArray):Nat:=((Nm.split x).getD []).length
def candZ(o name:ByteArray)(s:Sz):Bool:=decide (s.ty=2)&& !sameS s.own o&&isUnderS name s.own
def cutStep(o name best:ByteArray)(s:Sz):ByteArray:=if(candZ o name s&&(decide (best=⟨#[]⟩)||decide (labN s.own<labN best)))=true then s.own else best
def cutZ(ss:List Sz)(o name:ByteArray):ByteArray:=ss.foldl (cutStep o name) ⟨#[]⟩
def typZ(ss:List Sz)(name:ByteArray):List Int:=(ss.filter fun s=>sameS s.own name).map (·.ty)
def cloZ(th:ByteArray->Bool):List ByteArray->List ByteArray
 |[]=>[]
 |x::xs=>if th (joB (x::xs))=true then x::xs else cloZ th xs
def kdZ(name clo cut:ByteArray)(ty:List Int):Int:=
 if cut≠⟨#[]⟩ then(if sameS cut name=true then 4 else 5) else if 0<ty.length then 3 else if clo=name then 2 else 1
def ndZ(ps:List Zp)(o name:ByteArray):Nd:=
 if isUnderS name o=true then
  ⟨kdZ name (joB (cloZ (thZ ps o) ((Nm.split name).getD []))) (cutZ (ps.map (·.1)) o name) (typZ (ps.map (·.1)) name),joB (cloZ (thZ ps o) ((Nm.split name).getD [])),cutZ (ps.map (·.1)) o name,typZ (ps.map (·.1)) name⟩
 else nd0
def ndR(ps:List Zp)(o name:ByteArray):Nd×Int:=if zOK ps o=true∧(Nm.split name).isSome=true then(ndZ ps o name,0) else(nd0,32)
def tyT(os:List GOw)(lab:List ByteArray):List Int:=if isIn (oCmp lab) os=true then(match os[posOf (oCmp lab) os]? with|some q=>q.ss.map (·.ty)|none=>[]) else []
def cutN:Option GOw->ByteArray
 |some q=>q.nm
 |none=>⟨#[]⟩
def kdT(lab clo:List ByteArray)(cut:Option GOw)(own:Bool):Int:=match cut with
 |some q=>if q.lab.length=lab.length then 4 else 5
 |none=>if own=true then 3 else if clo.length=lab.length then 2 else 1
def ndT(os:List GOw)(al lab:List ByteArray):Nd:=
 if underB lab al=true then⟨kdT lab (cloT os lab) (cutT os lab (lab.length-al.length)) (isIn (oCmp lab) os),joB (cloT os lab),cutN (cutT os lab (lab.length-al.length)),tyT os lab⟩ else nd0
theorem thz_ex{ps:List Zp}{o name:ByteArray}{al lab:List ByteArray}(hz:zOK ps o=true)(ha:Nm.split o=some al)(hn:Nm.split name=some lab)(hu:underB lab al=true):∃ j,j<=lab.length∧thZ ps o (joB (lab.drop j))=true:=by
 obtain⟨p,hp,xs,h1,h2⟩:=apex_in hz ha;obtain⟨u1,u2⟩:=under_iff.1 hu;have hj:=((gl_split hn).drop (lab.length-al.length)).jo;refine⟨lab.length-al.length,by omega,?_⟩;rw [thZ,isUnder_some hj ha,under_self u2,Bool.true_and,List.any_eq_true];refine⟨p,hp,?_⟩;rw [isUnder_some h1 hj];exact under_self (by rw [cmpLs_eq_right u2];exact h2)
theorem TZ.zmem{ps:List Zp}{o:ByteArray}{al:List ByteArray}{os:List GOw}(h:TZ os o al)(hzs:ps.map (·.1)=zoneT os)(P:ByteArray->Bool):(ps.any fun p=>P p.1.own)=true↔ ∃ q∈os,P q.nm=true:=by
 have e:(ps.any fun p=>P p.1.own)=(zoneT os).any fun z=>P z.own:=by rw [<- hzs,List.any_map];rfl
 rw [e,List.any_eq_true];constructor
 ·rintro⟨z,hz,hp⟩
  obtain⟨g,hg,rfl⟩:=List.mem_map.1 hz;exact⟨g.1,(grT_mem.1 hg).1,hp⟩
 ·rintro⟨q,hq,hp⟩
  obtain⟨s,hs⟩:=h.full q hq;exact⟨szT (q,s),List.mem_map_of_mem (grT_mem.2 ⟨hq,hs⟩),hp⟩
theorem TZ.th{ps:List Zp}{o:ByteArray}{al:List ByteArray}{os:List GOw}(h:TZ os o al)(hzs:ps.map (·.1)=zoneT os){y:List ByteArray}(hy:Gl y)(hu:underB y al=true):thT y os=thZ ps o (joB y):=by
 rw [thZ,isUnder_some hy.jo h.ap,hu,Bool.true_and];apply Bool.eq_iff_iff.2;rw [thT_iff h.srt.1,h.zmem hzs (fun x=>isUnderS x (joB y))]
 constructor<;>rintro⟨q,hq,hp⟩<;>refine⟨q,hq,?_⟩
 ·rw [isUnder_some (h.nm q hq) hy.jo];exact hp
 ·rw [isUnder_some (h.nm q hq) hy.jo] at hp;exact hp
theorem TZ.topT{o:ByteArray}{al:List ByteArray}{os:List GOw}(h:TZ os o al){y:List ByteArray}(hu:Nm.cmpLs y al=0):thT y os=true:=by
 obtain⟨q,hq,e⟩:=h.top;exact(thT_iff h.srt.1 y).2 ⟨q,hq,under_self (by rw [cmpLs_eq_right hu];exact e)⟩
theorem TZ.clo{ps:List Zp}{o:ByteArray}{al:List ByteArray}{os:List GOw}(h:TZ os o al)(hzs:ps.map (·.1)=zoneT os):∀ (y:List ByteArray),Gl y->underB y al=true->cloT os y=cloZ (thZ ps o) y
 |[],_,_=>rfl
 |x::xs,hy,hu=>by
  rw [cloT,cloZ,h.th hzs hy hu]
  cases hq:thZ ps o (joB (x::xs)) with
  |true=>rfl
  |false=>
   simp only [Bool.false_eq_true,if_false];refine h.clo hzs xs hy.tail ?_;obtain⟨u1,u2⟩:=under_iff.1 hu
   rcases Nat.lt_or_ge al.length (x::xs).length with h1|h1
   ·exact under_drop hu (k:=1) (by omega)
   ·rw [show(x::xs).length-al.length=0 by omega,List.drop_zero] at u2;have:=h.topT u2;rw [h.th hzs hy hu,hq] at this;cases this
theorem TZ.hex{o:ByteArray}{al lab:List ByteArray}{os:List GOw}(h:TZ os o al)(hu:underB lab al=true):∃ j,j<=lab.length∧thT (lab.drop j) os=true:=by
 obtain⟨u1,u2⟩:=under_iff.1 hu;exact⟨lab.length-al.length,by omega,h.topT u2⟩
def bzO(list:List Rr)(apex:ByteArray):ByteArray:=if(bldE list apex).1=0 then apex else ByteArray.empty
def bzZ(list:List Rr)(apex:ByteArray):List Sz:=if(bldE list apex).1=0 then bldZ list else []
def bzI(list:List Rr)(apex:ByteArray):Int:=if(bldE list apex).1=0 then 0 else(bldE list apex).2
theorem bz_uni{list:List Rr}{apex:ByteArray}{w w':World}{e:Ending}(h:BzPost list apex w e w'):∃ a c ps,e=.returned (.tuple #[.agg #[.string (bzO list apex),.slice a ps.length c],.int .i64 (bldE list apex).1,.int .i64 (bzI list apex)])∧ps.map (·.1)=bzZ list apex∧ZOwn w' w.heap.size (.slice a ps.length c) ps∧Below w.heap.size w w':=by
 obtain⟨hb,h0,h1⟩:=h
 by_cases hc:(bldE list apex).1=0
 ·obtain⟨v,ps,rfl,hp,hz⟩:=h0 hc;obtain⟨a,c,rfl⟩:=own_sl hz.outer;exact⟨a,c,ps,by rw [bzO,bzI,if_pos hc,if_pos hc,hc],by rw [bzZ,if_pos hc];exact hp,hz,hb⟩
 ·exact⟨none,0,[],by rw [h1 hc,bzO,bzI,if_neg hc,if_neg hc];rfl,by rw [bzZ,if_neg hc];rfl,ZOwn.nil _ _,hb⟩
end Go.Proofs.YtahpiciofdfipaaGreat
