import Derived.Test.YtmdinnjimioffaaGreatJFoldN
import Derived.Test.YtmdinnjimioffaaGreatJZqR
import Derived.Test.YtmdinnjimioffaaGreatJTrE
import Derived.Test.YtmdinnjimioffaaGreatJTrD
import Derived.Handy
import Derived.Test.YtmdinnjimioffaaGreatJSSplit
import Derived.Test.YtmdinnjimioffaaGreatJFoldM
import Derived.Test.YtmdinnjimioffaaGreatJTrP
import Derived.Test.YtmdinnjimioffaaGreatJTrM
import Derived.Test.YtmdinnjimioffaaGreatJTrG
import Derived.Test.YtmdinnjimioffaaGreatJSameM
import Derived.Test.YtmdinnjimioffaaGreatJData1
namespace Go.Proofs.YtmdinnjimioffaaGreat
open Go.RowKit
set_option linter.unusedVariables false
def kinB(x y:It):Bool:=decide (y.fo=x.fo)&&decide (y.r.ty=x.r.ty)
def dupI(pre:List It)(x:It):Bool:=pre.any fun y=>kinB x y&&decide (y.dt=x.dt)
def mixI(pre:List It)(x:It):Bool:=match pre.find? (kinB x) with
 |some y=>decide (y.r.tt≠x.r.tt)
 |none=>false
def outI(b:Bool)(x:It):It:={x with out:=x.out||b}
def twI(l:List It):List It:=l.mapIdx fun i x=>outI (dupI (l.take i) x) x
def badI(l:List It):Int:=match firstI (fun i x=>mixI (l.take i) x) l with
 |some i=>i
 |none=> -1
theorem twI_len(l:List It):(twI l).length=l.length:=by simp [twI]
theorem twI_get{l:List It}{i:Nat}{x:It}(h:l[i]? =some x):(twI l)[i]? =some (outI (dupI (l.take i) x) x):=by
 simp [twI,h]
theorem dupI_take{l:List It}{k:Nat}{y:It}(x:It)(h:l[k]? =some y):dupI (l.take (k+1)) x=(dupI (l.take k) x||(kinB x y&&decide (y.dt=x.dt))):=by
 obtain⟨hi,e⟩:=List.getElem?_eq_some_iff.1 h;rw [List.take_succ_eq_append_getElem hi,e];simp [dupI]
theorem find_take_no{l:List It}{k:Nat}{p:It->Bool}(h:∀ (j:Nat) (y:It),j<k->l[j]? =some y->p y=false):(l.take k).find? p=none:=by
 rw [List.find?_eq_none];intro y hy;obtain⟨j,hj,e⟩:=List.getElem_of_mem hy;have hj':=hj;rw [List.length_take] at hj';have h2:l[j]? =some y:=by rw [<- e,List.getElem_take,List.getElem?_eq_getElem (by omega)]
 simp [h j y (by omega) h2]
theorem find_take_at{l:List It}{k f:Nat}{y:It}{p:It->Bool}(hf:f<k)(hy:l[f]? =some y)(hp:p y=true)(h:∀ (j:Nat) (z:It),j<f->l[j]? =some z->p z=false):(l.take k).find? p=some y:=by
 rw [List.find?_eq_some_iff_getElem];obtain⟨hl,e⟩:=List.getElem?_eq_some_iff.1 hy;refine⟨hp,f,by rw [List.length_take];omega,by rw [List.getElem_take];exact e,fun j hj=>?_⟩;rw [List.getElem_take];have:=h j l[j] hj (List.getElem?_eq_getElem (by omega));simp [this]
def midI(l:List It)(i k:Nat):List It:=(twI l).take i++(l.drop i).mapIdx fun j x=>if j=0 then outI (dupI (l.take k) x) x else x
theorem midI_len(l:List It)(i k:Nat):(midI l i k).length=l.length:=by
 simp [midI,twI_len];omega
theorem midI_lo{l:List It}{i k j:Nat}{x:It}(h:l[j]? =some x)(hj:j<i):(midI l i k)[j]? =some (outI (dupI (l.take j) x) x):=by
 have hlt:=(List.getElem?_eq_some_iff.1 h).1;rw [midI,List.getElem?_append_left (by rw [List.length_take,twI_len];omega),List.getElem?_take_of_lt hj,twI_get h]
theorem midI_at{l:List It}{i k:Nat}{x:It}(h:l[i]? =some x):(midI l i k)[i]? =some (outI (dupI (l.take k) x) x):=by
 have hlt:=(List.getElem?_eq_some_iff.1 h).1;rw [midI,List.getElem?_append_right (by rw [List.length_take,twI_len];omega)];simp [twI_len,Nat.min_eq_left (Nat.le_of_lt hlt),h]
theorem midI_hi{l:List It}{i k j:Nat}{x:It}(h:l[j]? =some x)(hj:i<j):(midI l i k)[j]? =some x:=by
 have hlt:=(List.getElem?_eq_some_iff.1 h).1;rw [midI,List.getElem?_append_right (by rw [List.length_take,twI_len];omega)];simp only [List.length_take,twI_len,Nat.min_eq_left (by omega:i<=l.length),List.getElem?_mapIdx,List.getElem?_drop];rw [show i+(j-i)=j by omega,h]
 simp;omega
theorem midI_ext{l m:List It}{i k:Nat}(hl:m.length=l.length)(h:∀ (j:Nat) (x:It),l[j]? =some x->m[j]? =(midI l i k)[j]?):m=midI l i k:=by
 apply List.ext_getElem?;intro j
 by_cases hj:j<l.length
 ·exact h j _ (List.getElem?_eq_getElem hj)
 ·rw [List.getElem?_eq_none (by omega),List.getElem?_eq_none (by rw [midI_len];omega)]
theorem midI_start(l:List It):midI l 0 0=l:=by
 symm;refine midI_ext rfl (fun j x h=>?_)
 rcases Nat.eq_zero_or_pos j with rfl|hj
 ·rw [midI_at h,h];simp [outI,dupI]
 ·rw [midI_hi h hj,h]
theorem midI_next{l:List It}{i:Nat}(hi:i<l.length):midI l i i=midI l (i+1) 0:=by
 refine midI_ext (midI_len _ _ _) (fun j x h=>?_)
 by_cases h1:j<i
 ·rw [midI_lo h h1,midI_lo h (by omega)]
 ·by_cases h2:j=i
  ·subst h2;rw [midI_at h,midI_lo h (by omega)]
  ·by_cases h3:j=i+1
   ·subst h3;rw [midI_hi h (by omega),midI_at h];simp [outI,dupI]
   ·rw [midI_hi h (by omega),midI_hi h (by omega)]
theorem midI_end{l:List It}:midI l l.length 0=twI l:=by
 symm;refine midI_ext (twI_len l) (fun j x h=>?_);have hlt:=(List.getElem?_eq_some_iff.1 h).1;rw [midI_lo h hlt,twI_get h]
theorem midI_same{l:List It}{i k:Nat}{x y:It}(hx:l[i]? =some x)(hy:l[k]? =some y)(h:(kinB x y&&decide (y.dt=x.dt))=false):midI l i (k+1)=midI l i k:=by
 refine midI_ext (midI_len _ _ _) (fun j z hz=>?_)
 by_cases h1:j<i
 ·rw [midI_lo hz h1,midI_lo hz h1]
 ·by_cases h2:j=i
  ·subst h2;rw [hx] at hz;obtain rfl:=Option.some.inj hz;rw [midI_at hx,midI_at hx,dupI_take x hy,h,Bool.or_false]
  ·rw [midI_hi hz (by omega),midI_hi hz (by omega)]
theorem midI_out{l:List It}{i k:Nat}{x y:It}(hx:l[i]? =some x)(hy:l[k]? =some y)(h:(kinB x y&&decide (y.dt=x.dt))=true):(midI l i k).set i {x with out:=true}=midI l i (k+1):=by
 refine midI_ext (by rw [List.length_set,midI_len]) (fun j z hz=>?_);have hlt:=(List.getElem?_eq_some_iff.1 hx).1;rw [List.getElem?_set]
 by_cases h1:j<i
 ·rw [if_neg (by omega),midI_lo hz h1,midI_lo hz h1]
 ·by_cases h2:j=i
  ·subst h2;rw [hx] at hz;obtain rfl:=Option.some.inj hz;rw [if_pos rfl,if_pos (by rw [midI_len];exact hlt),midI_at hx,dupI_take x hy,h,Bool.or_true,outI,Bool.or_true]
  ·rw [if_neg (by omega),midI_hi hz (by omega),midI_hi hz (by omega)]
theorem itCs_set:∀ (l:List It) (i:Nat) (x:It),l[i]? =some x->(itCs l).set (i*8+7) (.bool true)=itCs (l.set i {x with out:=true}):=by
 intro l
 induction l with
 |nil=>intro i x h;simp at h
 |cons y l ih=>
  intro i x h;have e:∀ z zs,itCs (z::zs)=itC z++itCs zs:=by intro z zs;simp [itCs]
  cases i with
  |zero=>
   simp at h;subst h;rw [List.set_cons_zero,e,e,List.set_append_left _ _ (by simp [itC])]
   rfl
  |succ i=>
   simp at h;have hl:(itC y).length=8:=rfl;rw [List.set_cons_succ,e,e,List.set_append_right _ _ (by omega),hl,show(i+1)*8+7-8=i*8+7 by omega,ih i x h]
def sortF:Nat->List It->List It
 |0,l=>l
 |n+1,l=>if l.length<2 then l else List.merge (sortF n (l.take (l.length / 2))) (sortF n (l.drop (l.length / 2))) befI
def sortI(l:List It):List It:=sortF l.length l
theorem sortF_small{n:Nat}{l:List It}(h:l.length<2):sortF n l=l:=by
 cases n with
 |zero=>rfl
 |succ n=>rw [sortF,if_pos h]
theorem sortF_big{n:Nat}{l:List It}(h:¬l.length<2):sortF (n+1) l=List.merge (sortF n (l.take (l.length / 2))) (sortF n (l.drop (l.length / 2))) befI:=by rw [sortF,if_neg h]
theorem sortF_perm:∀ (n:Nat) (l:List It),(sortF n l).Perm l:=by
 intro n
 induction n with
 |zero=>intro l;exact .refl _
 |succ n ih=>
  intro l
  by_cases h:l.length<2
  ·rw [sortF_small h]
  ·rw [sortF_big h];have h1:(List.merge (sortF n (l.take (l.length / 2))) (sortF n (l.drop (l.length / 2))) befI).Perm (sortF n (l.take (l.length / 2))++sortF n (l.drop (l.length / 2))):=List.merge_perm_append _;refine h1.trans ?_;refine((ih _).append (ih _)).trans ?_;rw [List.take_append_drop]
theorem sortF_len(n:Nat)(l:List It):(sortF n l).length=l.length:=(sortF_perm n l).length_eq
theorem sortF_mem{n:Nat}{l:List It}{x:It}:x∈sortF n l↔x∈l:=(sortF_perm n l).mem_iff
theorem itCs_take(l:List It)(h:Nat):itCs (l.take h)=(itCs l).take (h*8):=by
 induction l generalizing h with
 |nil=>simp [itCs]
 |cons x l ih=>
  have e:∀ z zs,itCs (z::zs)=itC z++itCs zs:=by intro z zs;simp [itCs]
  have hl:(itC x).length=8:=rfl
  cases h with
  |zero=>simp [itCs]
  |succ h=>
   rw [List.take_succ_cons,e,e,ih,List.take_append,hl,List.take_of_length_le (l:=itC x) (i:=(h+1)*8) (by omega),show(h+1)*8-8=h*8 by omega]
theorem itCs_drop(l:List It)(h:Nat):itCs (l.drop h)=(itCs l).drop (h*8):=by
 induction l generalizing h with
 |nil=>simp [itCs]
 |cons x l ih=>
  have e:∀ z zs,itCs (z::zs)=itC z++itCs zs:=by intro z zs;simp [itCs]
  have hl:(itC x).length=8:=rfl
  cases h with
  |zero=>simp
  |succ h=>
   rw [List.drop_succ_cons,e,ih,List.drop_append,hl,List.drop_of_length_le (l:=itC x) (i:=(h+1)*8) (by omega),show(h+1)*8-8=h*8 by omega,List.nil_append]
theorem cr_take{w:World}{b off n cap h:Nat}{l:List It}(hr:CRow w (.slice (some ⟨b,off,none⟩) n cap) l.length 8 (itCs l))(hh:h<=l.length):CRow w (.slice (some ⟨b,off,none⟩) h cap) (l.take h).length 8 (itCs (l.take h)):=by
 obtain⟨h0,a,c,e,h1,h2,h3⟩:=hr;simp only [Value.slice.injEq] at e;obtain⟨rfl,rfl,rfl⟩:=e;have hl:(l.take h).length=h:=by rw [List.length_take];omega
 rw [hl];refine⟨by rw [itCs_len,hl],_,_,rfl,by omega,h2,fun hp=>⟨b,off,rfl,fun i x hx=>?_⟩⟩;rw [itCs_take] at hx;obtain⟨b',off',e,hc⟩:=h3 (by omega);cases e
 refine hc i x ?_;rw [List.getElem?_take] at hx
 split at hx
 ·exact hx
 ·cases hx
theorem cr_drop{w:World}{b off n cap h:Nat}{l:List It}(hr:CRow w (.slice (some ⟨b,off,none⟩) n cap) l.length 8 (itCs l))(hh:h<l.length):CRow w (.slice (some ⟨b,off+h*8,none⟩) (l.length-h) (cap-h)) (l.drop h).length 8 (itCs (l.drop h)):=by
 obtain⟨h0,a,c,e,h1,h2,h3⟩:=hr;simp only [Value.slice.injEq] at e;obtain⟨rfl,rfl,rfl⟩:=e;have hl:(l.drop h).length=l.length-h:=List.length_drop;rw [hl];refine⟨by rw [itCs_len,hl],_,_,rfl,by omega,by omega,fun hp=>⟨b,off+h*8,rfl,fun i x hx=>?_⟩⟩;rw [itCs_drop,List.getElem?_drop] at hx;obtain⟨b',off',e,hc⟩:=h3 (by omega);cases e
 have:=hc (h*8+i) x hx;rw [Nat.add_assoc];exact this
theorem merge_left{a b:List It}{i:Nat}{x:It}(hx:a[i]? =some x):List.merge (a.drop i) (b.drop b.length) befI=x::List.merge (a.drop (i+1)) (b.drop b.length) befI:=by
 obtain⟨hi,e⟩:=List.getElem?_eq_some_iff.1 hx;rw [List.drop_length,List.merge_right,List.merge_right,List.drop_eq_getElem_cons hi,e]
theorem merge_one{a b:List It}{i k:Nat}{x y:It}(hx:a[i]? =some x)(hy:b[k]? =some y)(h:befI x y=true):List.merge (a.drop i) (b.drop k) befI=x::List.merge (a.drop (i+1)) (b.drop k) befI:=by
 obtain⟨hi,e⟩:=List.getElem?_eq_some_iff.1 hx;obtain⟨hk,e2⟩:=List.getElem?_eq_some_iff.1 hy;rw [List.drop_eq_getElem_cons hi,e,List.drop_eq_getElem_cons hk,e2,List.cons_merge_cons,if_pos h]
theorem merge_two{a b:List It}{i k:Nat}{x y:It}(hx:a[i]? =some x)(hy:b[k]? =some y)(h:befI x y=false):List.merge (a.drop i) (b.drop k) befI=y::List.merge (a.drop i) (b.drop (k+1)) befI:=by
 obtain⟨hi,e⟩:=List.getElem?_eq_some_iff.1 hx;obtain⟨hk,e2⟩:=List.getElem?_eq_some_iff.1 hy;rw [List.drop_eq_getElem_cons hi,e,List.drop_eq_getElem_cons hk,e2,List.cons_merge_cons,if_neg (by simp [h])]
theorem merge_right'{a b:List It}{k:Nat}{y:It}(hy:b[k]? =some y):List.merge (a.drop a.length) (b.drop k) befI=y::List.merge (a.drop a.length) (b.drop (k+1)) befI:=by
 obtain⟨hk,e⟩:=List.getElem?_eq_some_iff.1 hy;rw [List.drop_length,List.nil_merge,List.nil_merge,List.drop_eq_getElem_cons hk,e]
set_option maxRecDepth 100000 in
set_option maxHeartbeats 3200000 in
theorem specZoneRecords_any(o:ByteArray)(v:Value)(ps:List Zp)(w:World)(h:ZRow w v ps)(hs:zsum ps<=1048576)(hl:ps.length<=1048576):
 Calls Tryz.prog 34 #[.agg #[.string o,v]] w fun e w'=>∃ u,e=.returned u∧w'.ownsRow w.heap.size 33 5 u (zoneRecs ps).length (rvVs (zoneRecs ps))∧Below w.heap.size w w':=by
 obtain⟨RS,hRS⟩:∃ R,R=zoneRecs ps:=⟨_,rfl⟩;rw [<- hRS];unfold zoneRecs at hRS;have hB0:=(Below.refl w.heap.size w).alloc (Nat.le_refl _) (.cells #[.string o,v] 28);have hbx:=blk_new w #[.string o,v] 28;have hrow:=h.below hB0;have hrowW:=h;have hsz0:(w.alloc (.cells #[.string o,v] 28)).heap.size=w.heap.size+1:=by simp
 have o0:=World.ownsRow_lit (base:=(w.alloc (.cells #[.string o,v] 28)).heap.size) (e:=33) (size:=5) (w.alloc (.cells #[.string o,v] 28)) #[] 0 (Nat.le_refl _) (by decide) rfl;obtain⟨⟨_,a,cap,rfl,hcap,hmx,_⟩,_⟩:=h;unfold maxLen at hmx
 by_cases hbig:500<ps.length
 ·have hbig':(500:Int)<(ps.length:Int):=by omega
  obtain rfl:RS=[]:=by rw [hRS,if_pos (.inl hbig)]
  clear hRS hrow;go_enter Tryz.func34,Tryz.ntmps34;go_wp2;go_ret;refine⟨_,rfl,?_,hB0.alloc hB0.size _⟩;rw [hsz0] at o0;exact own_base o0 (by omega)
 ·have hbig':(ps.length:Int)<=500:=by omega
  have hcnt:=fun W (hW:Below (w.alloc (.cells #[.string o,.slice a ps.length cap] 28)).heap.size (w.alloc (.cells #[.string o,.slice a ps.length cap] 28)) W)=>l06Count_any o (.slice a ps.length cap) ps W (hrow.below hW) hs hl
  by_cases hd:500<dsum ps
  ·have hd':(500:Int)<(dsum ps:Int):=by omega
   obtain rfl:RS=[]:=by rw [hRS,if_pos (.inr hd)]
   clear hRS hrow;generalize dsum ps=D at*;go_enter Tryz.func34,Tryz.ntmps34;go_wp2_with (go_at_call 70;refine(hcnt _ ((Below.refl _ _).alloc (Nat.le_refl _) _)).mono ?_;rintro e w1 ⟨rfl,hb1⟩)
   go_ret;refine⟨_,rfl,?_,Nm.below_two (hB0.alloc hB0.size _) hb1⟩;have o1:=own_below o0 hb1;rw [hsz0] at o1;exact own_base o1 (by omega)
  ·have hd':(dsum ps:Int)<=500:=by omega
   have hRS2:RS=recsAll ps:=by rw [hRS,if_neg (by omega)]
   clear hRS;have hdd:∀ k,dsum (ps.take k)<=500:=fun k=>by have:=dsum_take_le ps k;omega
   have hrl:=fun k=>recsAll_len (ps.take k)
   have hstep:=fun(k:Nat) (x:Zp) (h:ps[k]? =some x)=>recsAll_step h
   have hdst:=fun(k:Nat) (x:Zp) (h:ps[k]? =some x)=>dsum_step ps k x h
   have hrun:=hcnt;generalize hDP:dsum ps=D at hrun hd';go_enter Tryz.func34,Tryz.ntmps34;go_wp2_with (go_at_call 70;refine(hrun _ ((Below.refl _ _).alloc (Nat.le_refl _) _)).mono ?_;rintro e w1 ⟨rfl,hb1⟩)
   have hbx1:=blk_below (blk_alloc hbx (.cells #[] 33)) hb1;have hB1:=Nm.below_two (hB0.alloc hB0.size (.cells #[] 33)) hb1;have o1:=own_below o0 hb1;have hb01:Below (w.alloc (.cells #[.string o,.slice a ps.length cap] 28)).heap.size (w.alloc (.cells #[.string o,.slice a ps.length cap] 28)) w1:=Nm.below_two ((Below.refl _ _).alloc (Nat.le_refl _) _) hb1;have hrow1:=hrow.below hb01;rw [hsz0] at o1;clear hcnt hrun hb1 hb01 o0 hrow hbx hB0 hsz0;obtain⟨wb,hwb⟩:∃ wb,wb=w1:=⟨w1,rfl⟩;have hw1b:w.heap.size+1<=w1.heap.size:=blk_lt hbx1
   go_loopw [3,4] (fun vo vi wr=>∃ k:Nat,k<=ps.length∧vi=.int .i64 k∧wr.ownsRow (w.heap.size+1) 33 5 vo (recsAll (ps.take k)).length (rvVs (recsAll (ps.take k)))∧Below (w.heap.size+1) w1 wr) (fun _ vi _=>ps.length-(intOf vi).toNat)
   case atStart=>exact⟨0,Nat.zero_le _,rfl,o1,Below.refl _ _⟩
   case round=>
    obtain⟨k,hk,rfl,oO,hbel⟩:=hrel;clear o1;have hW:Below w.heap.size w wr:=hB1.trans (hbel.mono (by omega));have hbr:Blk wr w.heap.size #[.string o,.slice a ps.length cap] 28:=(hbel.block _ (by omega)).trans hbx1;have q1:wr.cell? ⟨w.heap.size,1,none⟩=some (.slice a ps.length cap):=(blk_cell hbr 1).trans rfl;have hwsz:w.heap.size+1<=wr.heap.size:=blk_lt hbr
    by_cases hlt:k<ps.length
    ·obtain⟨x,hxk⟩:∃ x,ps[k]? =some x:=⟨_,List.getElem?_eq_getElem hlt⟩;obtain⟨⟨_,a',cap',hv,_,_,hc⟩,hsr⟩:=hrowW.below hW;simp only [Value.slice.injEq] at hv;obtain⟨rfl,_,rfl⟩:=hv;obtain⟨b,off,rfl,hcell⟩:=hc (by omega);obtain⟨c0,c1,c2,c3⟩:=zp_cells hcell hxk;have hmem:=List.mem_of_getElem? hxk;have hxl:x.1.da.length<=1048576:=by have:=zsum_mem ps x hmem;unfold zs1 at this;omega
     have hone:=l06SetRecords_any x.1 x.2 wr (hsr x hmem) hxl;have hsp:=hstep k x hxk;have hld:=hdst k x hxk;have hd1:=hdd (k+1);have hl0:=hrl k;have hl1:=recsOf_len x.1;have hjn:=fun U W (h1:W.ownsRow (w.heap.size+1) 33 5 _ (recsAll (ps.take k)).length (rvVs (recsAll (ps.take k)))) (h2:W.ownsRow wr.heap.size 33 5 U (recsOf x.1).length (rvVs (recsOf x.1))) hB=>l06Join_any _ U (recsAll (ps.take k)) (recsOf x.1) (w.heap.size+1) wr.heap.size W h1 h2 hB (fun g hg=>(oO.lt g hg).2) (by omega)
     rw [<- hsp] at hjn;have i1:(0:Int)<=(k:Int):=by omega
     have i2:(k:Int)<(ps.length:Int):=by omega
     clear hcell hc hsr hrowW hstep hdst hrl hdd hsp hld hl0 hl1 hmem hxk;generalize recsAll (ps.take k)=R0 at*;generalize hR1:recsAll (ps.take (k+1))=R1 at*;generalize recsOf x.1=R2 at*;obtain⟨⟨o1,ty,tt,da⟩,dv⟩:=x;simp only at c0 c1 c2 c3 hone
     obtain⟨oa,oc,hov⟩:=own_sl oO;subst hov;go_wp2_with (first|(go_at_call 72;refine hone.mono ?_;rintro e w2 ⟨u,rfl,hu,hb2⟩;have oO2:=own_below oO hb2)|(go_at_call 71;refine(hjn _ _ oO2 hu (by have:=hb2.size;omega)).mono ?_;rintro e w3 ⟨u3,rfl,hu3,hb3⟩))
     go_roundw
     case rel=>exact⟨k+1,by omega,by go_num,by rw [hR1];exact hu3,(hbel.trans (hb2.mono (by omega))).trans hb3⟩
     case measure=>simp [intOf];omega
    ·have hkl:k=ps.length:=by omega
     subst hkl;have i2:(ps.length:Int)<=(ps.length:Int):=by omega
     rw [List.take_length,<- hRS2] at oO;clear hrowW hstep hdst hrl hdd hRS2;go_wp2;go_ret;exact⟨_,rfl,own_base oO (by omega),hW⟩
end Go.Proofs.YtmdinnjimioffaaGreat
namespace Go.Proofs.YtmdinnjimioffaaGreat
open Go.RowKit
set_option maxRecDepth 100000 in
set_option maxHeartbeats 400000 in
theorem l01Raw_any(g:Nat)(a:Option Addr)(n cap:Nat)(w:World)(h:Src w g a n cap):
 Calls Tryz.prog 17 #[.pointer (some ⟨g,0,none⟩)] w fun e w'=>∃ s:ByteArray,e=.returned (.string s)∧s.size<=2000∧Src w' g a n cap∧w.grownBy w' (some g):=by
 go_enter Tryz.func17,Tryz.ntmps17;go_wp2_with fail
 refine(l01Name_any g a n cap _ h).mono ?_;rintro e w1 ⟨s,rfl,hs0,hs1,hsrc,hgr⟩;go_wp2_with fail
 refine(l01Next_any g a n cap 8 _ hsrc (by decide)).mono ?_;rintro e w2 ⟨r,rfl,hr0,hr1,hsrc2,hgr2⟩;have hg:=grown_step hgr hgr2
 by_cases hr:r=0
 ·subst hr;go_wp2_with fail
  refine(l01Spoil_any g a n cap s _ hsrc2 hs0 hs1).mono ?_;rintro e w3 ⟨s3,rfl,hs3,hsrc3,hgr3⟩;go_wp2;go_ret;exact⟨_,rfl,hs3,hsrc3,grown_step hg hgr3⟩
 ·have hr':(r==0)=false:=by rw [beq_eq_false_iff_ne];exact hr
  go_wp2;go_ret;exact⟨_,rfl,by omega,hsrc2,hg⟩
end Go.Proofs.YtmdinnjimioffaaGreat
namespace Go.Proofs.YtmdinnjimioffaaGreat
open Go.RowKit
def CodeIn(w:World)(a:Option Addr)(n:Nat):Prop:=
 n=0∨∃ b off,a=some ⟨b,off,none⟩∧∀ i,i<n->∃ c:Int,w.cell? ⟨b,off+i,none⟩=some (.int .u8 c)∧0<=c∧c<256
def Beg(w wr:World)(a:Option Addr)(n cap:Nat)(st:Int):Prop:=
 wr.heap[w.heap.size]? =some (.cells #[.slice none 0 0,.int .i64 0,.int .u64 0] 40 (0,0))∧
 wr.heap[w.heap.size+1]? =some (.cells #[.slice a n cap,.int .i64 0,.int .u64 st] 40 (0,0))∧Below w.heap.size w wr
theorem beg_set{w wr:World}{a:Option Addr}{n cap:Nat}{st:Int}(h:Beg w wr a n cap st)(s2:Int):Beg w (wr.setCell ⟨w.heap.size+1,2,none⟩ (.int .u64 s2)) a n cap s2:=by
 obtain⟨h1,h2,h3⟩:=h;refine⟨?_,?_,h3.setCell (by simp) _⟩
 ·rw [heap_setCell_other wr ⟨w.heap.size+1,2,none⟩ w.heap.size _ (by simp)];exact h1
 ·rw [heap_setCell_same wr (w.heap.size+1) 2 _ _ _ h2];rfl
theorem beg_drew{w wr:World}{a:Option Addr}{n cap:Nat}{st:Int}(h:Beg w wr a n cap st):Beg w wr.drew a n cap st:=⟨h.1,h.2.1,h.2.2.drew⟩
set_option maxRecDepth 100000 in
set_option maxHeartbeats 400000 in
theorem l01Begin_any(a:Option Addr)(n cap:Nat)(w:World)(h:CodeIn w a n)(hn:n<=1048576):
 Calls Tryz.prog 12 #[.slice a n cap] w fun e w'=>∃ st:Int,e=.returned (.agg #[.slice a n cap,.int .i64 0,.int .u64 st])∧Below w.heap.size w w':=by
 go_enter Tryz.func12,Tryz.ntmps12;go_wp2
 go_loopw [4] (fun i wr=>∃ (k:Nat) (st:Int),k<=n∧i=.int .i64 k∧Beg w wr a n cap st) (fun i _=>n-(intOf i).toNat)
 case atStart=>
  refine⟨0,1469598103934665603,Nat.zero_le _,rfl,?_,?_,((Below.refl _ _).alloc (Nat.le_refl _) _).alloc (by simp) _⟩
  ·exact((MapKept.heap_alloc (w.alloc _) _).2 _ (by simp)).trans (heap_alloc_new w _)
  ·have:=heap_alloc_new (w.alloc (.cells #[.slice none 0 0,.int .i64 0,.int .u64 0] 40 (0,0))) (.cells #[.slice a n cap,.int .i64 0,.int .u64 1469598103934665603] 40 (0,0));rw [World.size_alloc] at this;exact this
 case round=>
  obtain⟨k,st,hk,rfl,hbeg⟩:=hrel;have HB:=fun s2=>Nm.hide (beg_set hbeg s2)
  have HB0:=Nm.hide hbeg.2.2;obtain⟨hb0,hb1,hbel⟩:=hbeg;have c0:=cell_of_row wr (w.heap.size+1) 0 _ _ _ hb1;have c1:=cell_of_row wr (w.heap.size+1) 1 _ _ _ hb1;have c2:=cell_of_row wr (w.heap.size+1) 2 _ _ _ hb1;have f2:=frozen_of_row wr (w.heap.size+1) 2 _ _ hb1;have e0:=cell_of_row wr w.heap.size 0 _ _ _ hb0;have e1:=cell_of_row wr w.heap.size 1 _ _ _ hb0;have e2:=cell_of_row wr w.heap.size 2 _ _ _ hb0;have g0:=frozen_of_row wr w.heap.size 0 _ _ hb0;have g1:=frozen_of_row wr w.heap.size 1 _ _ hb0;have g2:=frozen_of_row wr w.heap.size 2 _ _ hb0;simp at c0 c1 c2 e0 e1 e2
  by_cases hlt:k<n
  ·obtain⟨b,off,rfl,hcode⟩:=h.resolve_left (by omega);obtain⟨c,hc,hc0,hc1⟩:=hcode k hlt;have hbl:=World.block_lt_of_cell? w _ hc;have hcr:=(hbel.cell hbl).trans hc;clear hb0 hb1 hbel hcode hc h;go_wp2;go_region
   go_wp2;go_roundw
   case rel=>exact⟨k+1,_,by omega,by go_num,beg_drew (HB _).out⟩
   case measure=>simp [intOf];omega
  ·have hke:k=n:=by omega
   subst hke;clear hb0 hb1 hbel h;have r0:=fun v=>World.cell?_setCell_same wr ⟨w.heap.size,0,none⟩ v e0
   have r1:=fun u v=>World.cell?_setCell_same (wr.setCell ⟨w.heap.size,0,none⟩ u) ⟨w.heap.size,1,none⟩ v ((World.cell?_setCell_other wr ⟨w.heap.size,0,none⟩ ⟨w.heap.size,1,none⟩ u (by simp)).trans e1)
   have r2:=fun t u v=>World.cell?_setCell_same ((wr.setCell ⟨w.heap.size,0,none⟩ t).setCell ⟨w.heap.size,1,none⟩ u) ⟨w.heap.size,2,none⟩ v ((World.cell?_setCell_other _ ⟨w.heap.size,1,none⟩ ⟨w.heap.size,2,none⟩ u (by simp)).trans ((World.cell?_setCell_other wr ⟨w.heap.size,0,none⟩ ⟨w.heap.size,2,none⟩ t (by simp)).trans e2))
   go_wp2;refine bodyPost_ret (v:=.agg #[.slice a k cap,.int .i64 0,.int .u64 st]) ?_ rfl ⟨st,rfl,((HB0.out.setCell (Nat.le_refl _) _).setCell (Nat.le_refl _) _).setCell (Nat.le_refl _) _⟩;simp [results,Tryz.results12,go_sem,r0,r1,r2,Result.andThen]
end Go.Proofs.YtmdinnjimioffaaGreat
namespace Go.Proofs.YtmdinnjimioffaaGreat
open Go.RowKit
theorem code_below{w w1:World}{a:Option Addr}{n:Nat}(h:CodeIn w a n)(hb:Below w.heap.size w w1):CodeIn w1 a n:=by
 rcases h with h|⟨b,off,e,hc⟩
 ·exact .inl h
 ·refine .inr ⟨b,off,e,fun j hj=>?_⟩;obtain⟨c,hc1,hc2⟩:=hc j hj;exact⟨c,(hb.cell (World.block_lt_of_cell? w _ hc1)).trans hc1,hc2⟩
theorem code_at{w w1:World}{a:Option Addr}{n:Nat}(h:CodeIn w a n)(hb:Below w.heap.size w w1):CodeAt w1 w.heap.size a n:=by
 rcases h with h|⟨b,off,e,hc⟩
 ·exact .inl h
 ·rcases Nat.eq_zero_or_pos n with hn|hn
  ·exact .inl hn
  refine .inr ⟨b,off,e,?_,fun j hj=>?_⟩
  ·obtain⟨c,hc1,_⟩:=hc 0 hn;have:b<w.heap.size:=World.block_lt_of_cell? w _ hc1;omega
  ·obtain⟨c,hc1,hc2⟩:=hc j hj;exact⟨c,(hb.cell (World.block_lt_of_cell? w _ hc1)).trans hc1,hc2⟩
theorem src_made{w:World}{a:Option Addr}{n cap:Nat}(h:CodeIn w a n)(hn:n<=1048576)(st:Int):
 Src (w.alloc (.cells #[.slice a n cap,.int .i64 0,.int .u64 st] 40 (0,0))) w.heap.size a n cap:=
 ⟨0,st,heap_alloc_new w _,Int.le_refl _,Int.natCast_nonneg _,hn,code_at h ((Below.refl _ _).alloc (Nat.le_refl _) _)⟩
end Go.Proofs.YtmdinnjimioffaaGreat
namespace Go.Proofs.YtmdinnjimioffaaGreat
open Go.RowKit
def InC(w wr:World)(g:Nat)(a:Option Addr)(n cap gr m rc:Nat)(ls:List ByteArray)(gb:Nat)(l:List UInt8):Prop:=
 wr.ownsRow w.heap.size 9 1 (.slice (some ⟨gr,0,none⟩) m rc) m (ls.map Value.string)∧Src wr g a n cap∧w.grownBy wr (some g)∧BRow wr gb l∧gr≠gb∧w.heap.size<=gb
theorem code_ne{w:World}{g n gb:Nat}{a:Option Addr}(h:CodeAt w g a n)(hb:w.heap.size<=gb):n=0∨∀ b off,a=some ⟨b,off,none⟩->b≠gb:=by
 rcases Nat.eq_zero_or_pos n with hn|hn
 ·exact .inl hn
 refine .inr fun b off e=>?_
 rcases h with h0|⟨b',off',e',_,hc⟩
 ·omega
 ·rw [e] at e';simp only [Option.some.injEq,Addr.mk.injEq,and_true] at e';obtain⟨rfl,rfl⟩:=e';obtain⟨c,hc1,_⟩:=hc 0 (by omega);have:b<w.heap.size:=World.block_lt_of_cell? w _ hc1;omega
theorem inc_next{w wr w1:World}{g n cap gr m rc gb:Nat}{a:Option Addr}{ls:List ByteArray}{l:List UInt8}(hg:g<w.heap.size)(h:InC w wr g a n cap gr m rc ls gb l)(hs:Src w1 g a n cap)(hgr:wr.grownBy w1 (some g)):InC w w1 g a n cap gr m rc ls gb l:=by
 obtain⟨h1,h2,h3,h4,h5,h6⟩:=h;exact⟨h1.kept hgr (row_src h1 h2 (by decide)),hs,grown_step h3 hgr,brow_grown h4 hgr (by omega),h5,h6⟩
theorem inc_set{w wr:World}{g n cap gr m rc gb k:Nat}{a:Option Addr}{ls:List ByteArray}{l:List UInt8}(hg:g<w.heap.size)(hcode:CodeAt w g a n)(h:InC w wr g a n cap gr m rc ls gb l)(hk:k<l.length)(z:Int)(hz0:0<=z)(hz1:z<256):
 ∃ l',l'.length=l.length∧InC w (wr.setCell ⟨gb,k,none⟩ (.int .u8 z)) g a n cap gr m rc ls gb l':=by
 obtain⟨h1,h2,h3,h4,h5,h6⟩:=h;obtain⟨d,rfl⟩:=byte_of_int hz0 hz1;refine⟨l.set k d,by simp,h1.kept (row:=some gb) ⟨rfl,rfl,rfl,by simp,fun q _ hq=>heap_setCell_other wr ⟨gb,k,none⟩ q _ (fun e=>hq (by simp [e]))⟩ (.inr (by simpa [Value.ownBlock] using h5)),src_setOther h2 (by omega) (code_ne hcode h6),grown_set h3 h6,h4.set hk,h5,h6⟩
theorem wsum_set{ls:List ByteArray}{k:Nat}{x y:ByteArray}(h:ls[k]? =some x)(he:y.size=x.size):Nm.wsum (ls.set k y)=Nm.wsum ls:=by
 have hk:k<ls.length:=(List.getElem?_eq_some_iff.1 h).1;have hx:ls[k]=x:=(List.getElem?_eq_some_iff.1 h).2
 have e1:ls=ls.take k++(x::ls.drop (k+1)):=by
  rw [<- hx,<- List.drop_eq_getElem_cons hk,List.take_append_drop]
 have e2:ls.set k y=ls.take k++(y::ls.drop (k+1)):=by
  rw [List.set_eq_take_append_cons_drop,if_pos hk]
 rw [e2,Nm.wsum_append]
 conv=>rhs;rw [e1,Nm.wsum_append]
 simp [Nm.wsum,he]
theorem inc_stored{w wr:World}{g n cap gr m rc gb k:Nat}{a:Option Addr}{ls:List ByteArray}{l:List UInt8}(hg:g<w.heap.size)(hcode:CodeAt w g a n)(h:InC w wr g a n cap gr m rc ls gb l)(hw:w.heap.size<=gr)(y:ByteArray):
 (wr.setCell ⟨gr,k,none⟩ (.string y)).ownsRow w.heap.size 9 1 (.slice (some ⟨gr,0,none⟩) m rc) m ((ls.set k y).map Value.string)∧Src (wr.setCell ⟨gr,k,none⟩ (.string y)) g a n cap∧w.grownBy (wr.setCell ⟨gr,k,none⟩ (.string y)) (some g):=by
 obtain⟨h1,h2,h3,h4,h5,h6⟩:=h;refine⟨?_,src_setOther h2 (by omega) (code_ne hcode hw),grown_set h3 hw⟩;have:=(h1.stored k (.string y)).1;rw [List.map_set];exact this
theorem inc_start{w wr W:World}{g n cap gr m rc:Nat}{a:Option Addr}{ls:List ByteArray}{l:List UInt8}(h1:wr.ownsRow w.heap.size 9 1 (.slice (some ⟨gr,0,none⟩) m rc) m (ls.map Value.string))(h2:Src wr g a n cap)(h3:w.grownBy wr (some g))(hb:Below wr.heap.size wr W)(hr:BRow W wr.heap.size l):
 InC w W g a n cap gr m rc ls wr.heap.size l:=by
 have hlt:=h1.lt gr rfl;exact⟨h1.kept (row:=none) ⟨hb.os,hb.tape,hb.output,hb.size,fun k hk _=>hb.block k hk⟩ (.inr (by simp [Value.ownBlock])),src_below h2 hb,grown_below h3 hb,hr,by omega,h3.size⟩
set_option maxRecDepth 100000 in
set_option maxHeartbeats 1600000 in
theorem l01Case_any(g:Nat)(a:Option Addr)(n cap:Nat)(nm:ByteArray)(w:World)(h:Src w g a n cap)(hz:nm.size<=maxLen):
 Calls Tryz.prog 74 #[.pointer (some ⟨g,0,none⟩),.string nm] w fun e w'=>∃ s:ByteArray,e=.returned (.string s)∧s.size<=255∧Src w' g a n cap∧w.grownBy w' (some g):=by
 obtain⟨hcode,hglt⟩:=src_code h;have hsp:=l01Split_any nm w hz
 have hws:Nm.wsum ((Nm.split nm).getD [])<=254:=by
  cases hq:Nm.split nm with
  |none=>simp [Nm.wsum]
  |some ls=>have:=Nm.split_size hq;simp;omega
 generalize (Nm.split nm).getD []=ls at*;generalize (Nm.split nm).isSome=ok at*;go_enter Tryz.func74,Tryz.ntmps74;go_wp2_with fail
 refine hsp.mono ?_;rintro e w1 ⟨v,rfl,hown,hbel⟩;have hs1:=src_below h hbel;have hg1:=grown_below (World.grownBy.refl w (some g)) hbel;clear hsp h hbel
 by_cases hn:ls=[]
 ·subst hn;have hr:=Nm.SRow.of_owns (ls:=[]) hown;have hr':=hr;obtain⟨ra,rcap,rfl,hcap,hmx,hnl,hc⟩:=hr';clear hown hc hnl;go_wp2
  go_loop [7] (fun i=>i=.int .i64 0) (fun _=>0)
  case atStart=>rfl
  case round=>
   subst hrel;go_wp2_with (go_at_call 43;refine(l01Join_any _ [] _ hr (by simp [Nm.wsum])).mono ?_;rintro e w2 ⟨rfl,hbel2⟩)
   go_ret;exact⟨_,rfl,by rw [mkj_size];simp [Nm.wsum],src_below hs1 hbel2,grown_below hg1 hbel2⟩
 ·have hlp:0<ls.length:=List.length_pos_iff.2 hn
  obtain⟨gr,rc,cur,rfl,hg⟩:∃ g cap cur,v=.slice (some ⟨g,0,none⟩) ls.length cap∧w.heap.size<=g∧ls.length<=cap∧cap<=maxLen∧w1.heap[g]? =some (.cells cur 9 (0,0)):=by
   rcases hown.2 with⟨rfl,h0⟩|⟨g,cap,cur,rfl,hb,hg,hnc,hm,_⟩
   ·omega
   ·exact⟨g,cap,cur,rfl,hb,hnc,hm,hg⟩
  obtain⟨hwg,hnc,hm,_⟩:=hg;unfold maxLen at hm;generalize hm0:ls.length=m at*;go_wp2
  go_loopw [7] (fun i wr=>∃ (k:Nat) (ls2:List ByteArray),k<=m∧i=.int .i64 k∧ls2.length=m∧Nm.wsum ls2<=254∧wr.ownsRow w.heap.size 9 1 (.slice (some ⟨gr,0,none⟩) m rc) m (ls2.map Value.string)∧Src wr g a n cap∧w.grownBy wr (some g))
   (fun i _=>m-(intOf i).toNat)
  case atStart=>exact⟨0,ls,Nat.zero_le _,rfl,hm0,hws,hown,hs1,hg1⟩
  case round=>
   obtain⟨k,ls2,hk,rfl,hl2,hw2,hown2,hs2,hg2⟩:=hrel;clear hown hs1 hg1 hws hm0 hn;have hsz2:=hg2.size
   by_cases hlt:k<m
   ·obtain⟨x,hx⟩:∃ x,ls2[k]? =some x:=⟨_,List.getElem?_eq_getElem (by omega)⟩
    have hxz:x.size<=254:=by
     have:=wsum_set (y:=x) hx rfl;have h1:=Nm.wsum_step hx;have h2:=Nm.wsum_take_le ls2 (k+1);omega
    have hcx:wr.cell? ⟨gr,k,none⟩=some (.string x):=by
     rw [hown2.cellAt k (by omega)];simp [hx]
    obtain⟨cp,W,hcp,hcpm,hrun,hrow,hbw⟩:=new_bytes x wr;have hcpm':=hcpm (by unfold maxLen;omega);unfold maxLen at hcpm';have hinc:=inc_start hown2 hs2 hg2 hbw hrow;have hxl:x.data.toList.length=x.size:=by simp
    clear hcpm hrow hbw hown2 hs2 hg2;go_wp2
    go_loopw [9] (fun i w2=>∃ (j:Nat) (l:List UInt8),j<=x.size∧i=.int .i64 j∧l.length=x.size∧InC w w2 g a n cap gr m rc ls2 wr.heap.size l)
     (fun i _=>x.size-(intOf i).toNat)
    case atStart=>exact⟨0,_,Nat.zero_le _,rfl,hxl,hinc⟩
    case round=>
     rename World=>w2
     obtain⟨j,l,hj,rfl,hll,hin⟩:=hrel;clear hinc hrun hcx
     by_cases hjt:j<x.size
     ·obtain⟨c,hc⟩:∃ c,l[j]? =some c:=⟨_,List.getElem?_eq_getElem (by omega)⟩;obtain⟨hcc,hcf⟩:=hin.2.2.2.1 j c hc;have hc255:(c.toNat:Int)<256:=by have:=c.toNat_lt;omega
      by_cases h97:97<=c.toNat
      ·by_cases h122:c.toNat<=122
       ·have d1:decide ((97:Int)<=(c.toNat:Int))=true:=by simp;omega
        have d2:decide ((c.toNat:Int)<=122)=true:=by simp;omega
        have d3:(97:Int)<=(c.toNat:Int):=by omega
        have d4:(c.toNat:Int)<=122:=by omega
        clear h97 h122;go_wp2_with fail
        refine(l01Next_any g a n cap 3 _ hin.2.1 (by decide)).mono ?_;rintro e w3 ⟨r,rfl,hr0,hr1,hs3,hg3⟩;have hin3:=inc_next hglt hin hs3 hg3;obtain⟨hcc3,hcf3⟩:=hin3.2.2.2.1 j c hc;clear hcc hcf hr1 hs3 hg3
        by_cases hr:r=0
        ·subst hr;obtain⟨l',hl',hin'⟩:=inc_set hglt hcode hin3 (k:=j) (by omega) ((c.toNat:Int)-32) (by omega) (by omega);have HI:=Nm.hide hin';clear hin' hin3 hin hc;go_wp2;go_roundw
         case rel=>exact⟨j+1,l',by omega,by go_num,by omega,HI.out⟩
         case measure=>simp [intOf];omega
        ·have hr':(r==0)=false:=by rw [beq_eq_false_iff_ne];exact hr
         clear hcc3 hcf3;go_wp2;go_roundw
         case rel=>exact⟨j+1,l,by omega,by go_num,hll,hin3⟩
         case measure=>simp [intOf];omega
       ·have d1:decide ((97:Int)<=(c.toNat:Int))=true:=by simp;omega
        have d2:decide ((c.toNat:Int)<=122)=false:=by simp;omega
        have d3:(97:Int)<=(c.toNat:Int):=by omega
        have d4:(122:Int)<(c.toNat:Int):=by omega
        go_wp2;go_roundw
        case rel=>exact⟨j+1,l,by omega,by go_num,hll,hin⟩
        case measure=>simp [intOf];omega
      ·have d1:decide ((97:Int)<=(c.toNat:Int))=false:=by simp;omega
       have d3:(c.toNat:Int)<97:=by omega
       go_wp2;go_roundw
       case rel=>exact⟨j+1,l,by omega,by go_num,hll,hin⟩
       case measure=>simp [intOf];omega
     ·have hje:j=x.size:=by omega
      subst hje;have hcv:=conv_brow (cap:=cp) (k:=x.size) hin.2.2.2.1 (by omega);have hys:=mk_size (l.take x.size);generalize ByteArray.mk (l.take x.size).toArray=y at*;have hyz:y.size=x.size:=by rw [hys,List.length_take];omega
      have hcr:w2.cell? ⟨gr,k,none⟩=some (.string x):=by
       rw [hin.1.cellAt k (by omega)];simp [hx]
      have hfr:=hin.1.frozenAt k;have HI:=Nm.hide (inc_stored (k:=k) hglt hcode hin hwg y);have hwy:=wsum_set hx hyz;clear hin hys hjt;go_wp2;go_roundw
      case rel=>exact⟨k+1,_,by omega,by go_num,by simpa using hl2,by omega,HI.out.1,HI.out.2.1,HI.out.2.2⟩
      case measure=>simp [intOf];omega
   ·have hkl:k=m:=by omega
    subst hkl;go_wp2_with (go_at_call 43;refine(l01Join_any _ ls2 _ (Nm.SRow.of_owns (by rw [hl2];exact hown2)) (by omega)).mono ?_;rintro e w3 ⟨rfl,hb3⟩)
    go_ret;exact⟨_,rfl,by rw [mkj_size];omega,src_below hs2 hb3,grown_below hg2 hb3⟩
end Go.Proofs.YtmdinnjimioffaaGreat
namespace Go.Proofs.YtmdinnjimioffaaGreat
open Go.RowKit
set_option linter.unusedVariables false
structure Dr (w0:World) (g:Nat) (a:Option Addr) (n cap:Nat) (w:World):Prop where
 s:Src w g a n cap
 gr:w0.grownBy w (some g)
 lt:g<w0.heap.size
 code:CodeAt w0 g a n
theorem Dr.start{w:World}{g n cap:Nat}{a:Option Addr}(h:Src w g a n cap):Dr w g a n cap w:=⟨h,World.grownBy.refl _ _,(src_code h).2,(src_code h).1⟩
theorem Dr.step{w0 w w1:World}{g n cap:Nat}{a:Option Addr}(d:Dr w0 g a n cap w)(h:Src w1 g a n cap)(hg:w.grownBy w1 (some g)):Dr w0 g a n cap w1:=⟨h,grown_step d.gr hg,d.lt,d.code⟩
theorem Dr.below{w0 w w1:World}{g n cap:Nat}{a:Option Addr}(d:Dr w0 g a n cap w)(h:Below w.heap.size w w1):Dr w0 g a n cap w1:=⟨src_below d.s h,grown_below d.gr h,d.lt,d.code⟩
theorem Dr.alloc{w0 w:World}{g n cap:Nat}{a:Option Addr}(d:Dr w0 g a n cap w)(o:Obj):Dr w0 g a n cap (w.alloc o):=d.below ((Below.refl _ _).alloc (Nat.le_refl _) _)
theorem Dr.row{w0 w w1:World}{g n cap:Nat}{a:Option Addr}{row:Option Nat}(d:Dr w0 g a n cap w)(hg:w.grownBy w1 row)(hr:∀ k,row=some k->w0.heap.size<=k):Dr w0 g a n cap w1:=⟨src_grown d.s hg hr d.lt d.code,grown_own d.gr hg hr,d.lt,d.code⟩
theorem Dr.keep{w0 w w1:World}{g n cap e sz m:Nat}{a:Option Addr}{v:Value}{xs:List Value}(d:Dr w0 g a n cap w)(h:w.ownsRow w0.heap.size e sz v m xs)(hg:w.grownBy w1 (some g)):w1.ownsRow w0.heap.size e sz v m xs:=by
 refine h.kept hg ?_
 cases hv:v.ownBlock with
 |none=>exact .inl rfl
 |some k=>
  have h1:=(h.lt k hv).1;have h2:=d.lt;right;simp only [ne_eq,Option.some.injEq];omega
theorem Dr.size{w0 w:World}{g n cap:Nat}{a:Option Addr}(d:Dr w0 g a n cap w):w0.heap.size<=w.heap.size:=d.gr.size
def ZR(r:Rr):Prop:=r.own.size<=1000∧r.da.size<=3200
theorem zr_snoc{xs:List Rr}{y:Rr}(h:∀ r∈xs,ZR r)(hy:ZR y):∀ r∈xs++[y],ZR r:=by
 intro r hr
 rcases List.mem_append.1 hr with hr|hr
 ·exact h r hr
 ·simp at hr;subst hr;exact hy
set_option maxRecDepth 100000 in
set_option maxHeartbeats 3200000 in
theorem l05Add_any{w0:World}{g n cap:Nat}{a:Option Addr}(v:Value)(xs:List Rr)(o:ByteArray)(t:Int)(d:ByteArray)(w:World)(D:Dr w0 g a n cap w)(hr:w.ownsRow w0.heap.size 33 5 v xs.length (rvVs xs))(hl:xs.length<=10000)(hx:∀ r∈xs,ZR r)(ho:o.size<=1000)(hd:d.size<=3200):
 Calls Tryz.prog 36 #[.pointer (some ⟨g,0,none⟩),v,.string o,.int .i64 t,.string d] w fun e w'=>∃ u y,e=.returned u∧ZR y∧w'.ownsRow w0.heap.size 33 5 u (xs++[y]).length (rvVs (xs++[y]))∧Dr w0 g a n cap w':=by
 obtain⟨i0,hi,hz0,hz1,hz2⟩:=info_parts Tryz.infoRRc;have HSM:=Nm.hide (fun(x:Rr) (hx:x.own.size<=1000) W=>specSameName_any x.own o W (by unfold maxLen;omega) (by unfold maxLen;omega));have HX:=Nm.hide hx;obtain⟨va,vc,rfl⟩:=own_sl hr;obtain⟨_,va',vc',ee,hcap,hmx,hc⟩:=CRow.of_owns hr;simp only [Value.slice.injEq] at ee;obtain⟨rfl,_,rfl⟩:=ee;have HR:=Nm.hide hr;have HD:=Nm.hide D;clear hx hr D;go_enter Tryz.func36,Tryz.ntmps36;go_wp2
 go_loopw [11,12] (fun tv iv wr=>∃ (k:Nat) (tt:Int),k<=xs.length∧iv=.int .i64 k∧tv=.int .i64 tt∧Below w.heap.size w wr) (fun _ i _=>xs.length-(intOf i).toNat)
 case atStart=>exact⟨0,3600,Nat.zero_le _,rfl,rfl,Below.refl _ _⟩
 case round=>
  obtain⟨k,tt,hk,rfl,rfl,hb⟩:=hrel
  by_cases hlt:k<xs.length
  ·obtain⟨x,hxk⟩:∃ x,xs[k]? =some x:=⟨_,List.getElem?_eq_getElem hlt⟩;obtain⟨b,off,rfl,hcell⟩:=hc (by omega);obtain⟨c0,c1,c2,c3,c4⟩:=rv_cells hcell hxk;have put:∀ {O:Nat} {z:Value},w.cell? ⟨b,O,none⟩=some z->wr.cell? ⟨b,O,none⟩=some z:=fun h=>(hb.cell (World.block_lt_of_cell? w _ h)).trans h
   replace c0:=put c0
   replace c1:=put c1
   replace c3:=put c3
   have hsm:=HSM.out x (HX.out x (List.mem_of_getElem? hxk)).1 wr;have i1:(0:Int)<=(k:Int):=by omega
   have i2:(k:Int)<(xs.length:Int):=by omega
   clear c2 c4 hcell hxk put hc;obtain⟨ow,ty,cl,tx,da⟩:=x;simp only at c0 c1 c3 hsm
   by_cases e1:ty=t
   ·have n1:(ty==t)=true:=by simp [e1]
    cases hsb:sameS ow o with
    |true=>
     rw [hsb] at hsm;clear hsb e1;go_wp2_with fail
     refine hsm.mono ?_;rintro e w2 ⟨rfl,b2⟩;have d3:=(b2.cell (World.block_lt_of_cell? wr _ c3)).trans c3;have hb2:=Nm.below_two hb b2;clear hsm c0 c1 c3 hb b2;go_wp2;go_roundw
     case rel=>exact⟨k+1,tx,hlt,by go_num,rfl,hb2⟩
     case measure=>simp [intOf];omega
    |false=>
     rw [hsb] at hsm;clear hsb e1;go_wp2_with fail
     refine hsm.mono ?_;rintro e w2 ⟨rfl,b2⟩;have hb2:=Nm.below_two hb b2;clear hsm c0 c1 c3 hb b2;go_wp2;go_roundw
     case rel=>exact⟨k+1,tt,hlt,by go_num,rfl,hb2⟩
     case measure=>simp [intOf];omega
   ·have n1:(ty==t)=false:=by simpa using e1
    clear e1 hsm c0 c3;go_wp2;go_roundw
    case rel=>exact⟨k+1,tt,hlt,by go_num,rfl,hb⟩
    case measure=>simp [intOf];omega
  ·have hkl:k=xs.length:=by omega
   subst hkl;have D1:=HD.out.below hb;have hr1:=own_below HR.out hb;have i3:¬(xs.length:Int)<(xs.length:Int):=by omega
   clear hc HR HD HSM HX hb hk hlt;go_wp2_with fail
   refine(l01Next_any g a n cap 12 _ D1.s (by decide)).mono ?_;rintro e w2 ⟨q,rfl,hq0,hq1,hs2,hg2⟩;have D2:=D1.step hs2 hg2;have hr2:=D1.keep hr1 hg2;clear D1 hr1 hs2 hg2 hq1
   by_cases hq:q=0
   ·subst hq;go_wp2_with fail
    refine(l01Case_any g a n cap o _ D2.s (by unfold maxLen;omega)).mono ?_;rintro e w3 ⟨s,rfl,hs,hs3,hg3⟩;have D3:=D2.step hs3 hg3;have hr3:=D2.keep hr2 hg3;have hs1:s.size<=1000:=by omega
    clear D2 hr2 hs3 hg3;have hz:=(D3).size;go_wp2_with (at_builtin;refine wpList_append_own _ rfl (.tmp 46) (.tmp 52) 23 rfl w0.heap.size 33 i0 _ 5 56 Tryz.underlying23 hi hz0 hz1 hz2 rfl (by decide) _ _ _ rfl ((hr3).alloc _) ⟨(w3).heap.size,0,none⟩ 1 1 [.string s,.int .i64 t,.int .i64 1,.int .i64 tt,.string d] rfl rfl (cell_newV w3 #[.string s,.int .i64 t,.int .i64 1,.int .i64 tt,.string d] 33) (by intro u hu;simp at hu;rcases hu with rfl|rfl|rfl|rfl|rfl<;>rfl) (by unfold maxLen;omega) (by omega) (by simp;omega) ?_)
    intro v9 w9 hown9 hgrow9 _;have D9:=((D3).alloc (.cells #[.string s,.int .i64 t,.int .i64 1,.int .i64 tt,.string d] 33)).row hgrow9 (fun k hk=>((hr3).lt k hk).1);clear hgrow9 hz;go_wp2;go_ret;refine⟨_,⟨s,t,1,tt,d⟩,rfl,⟨hs1,hd⟩,?_,D9⟩;rw [rvVs_app,List.length_append];exact hown9
   ·have n2:(q==0)=false:=by rw [beq_eq_false_iff_ne];exact hq
    have hz:=(D2).size;go_wp2_with (at_builtin;refine wpList_append_own _ rfl (.tmp 46) (.tmp 52) 23 rfl w0.heap.size 33 i0 _ 5 56 Tryz.underlying23 hi hz0 hz1 hz2 rfl (by decide) _ _ _ rfl ((hr2).alloc _) ⟨(w2).heap.size,0,none⟩ 1 1 [.string o,.int .i64 t,.int .i64 1,.int .i64 tt,.string d] rfl rfl (cell_newV w2 #[.string o,.int .i64 t,.int .i64 1,.int .i64 tt,.string d] 33) (by intro u hu;simp at hu;rcases hu with rfl|rfl|rfl|rfl|rfl<;>rfl) (by unfold maxLen;omega) (by omega) (by simp;omega) ?_)
    intro v9 w9 hown9 hgrow9 _;have D9:=((D2).alloc (.cells #[.string o,.int .i64 t,.int .i64 1,.int .i64 tt,.string d] 33)).row hgrow9 (fun k hk=>((hr2).lt k hk).1);clear hgrow9 hz;go_wp2;go_ret;refine⟨_,⟨o,t,1,tt,d⟩,rfl,⟨ho,hd⟩,?_,D9⟩;rw [rvVs_app,List.length_append];exact hown9
theorem bigL_len(v n:Nat):(bigL v n).length=n:=by simp [bigL]
theorem bigL_take{v n j:Nat}(h:j<n):Nm.bys ((bigL v n).take (j+1))=Nm.bys ((bigL v n).take j)++[.int .u8 ((v:Int) / 2 ^ (8*(n-1-j)) % 256)]:=by
 have hx:(bigL v n)[j]? =some (UInt8.ofNat (v / 2 ^ (8*(n-1-j)))):=by simp [bigL,h]
 have e:((UInt8.ofNat (v / 2 ^ (8*(n-1-j)))).toNat:Int)=(v:Int) / 2 ^ (8*(n-1-j)) % 256:=by
  rw [UInt8.toNat_ofNat',Int.natCast_emod,Int.natCast_ediv,Int.natCast_pow];rfl
 rw [List.take_add_one,hx,Nm.bys_append,<- e];rfl
set_option maxRecDepth 100000 in
set_option maxHeartbeats 1600000 in
theorem l02PutN_any(v n:Nat)(w:World)(hv:v<=4611686018427387904)(hn1:1<=n)(hn:n<=8):
 Calls Tryz.prog 42 #[.int .i64 (v:Int),.int .i64 (n:Int)] w fun e w'=>e=.returned (.string ⟨(bigL v n).toArray⟩)∧Below w.heap.size w w':=by
 obtain⟨j0,hj,k0,k1,k2⟩:=info_parts Tryz.infoBy;have i3:(n:Int)<=8:=by omega
 have i4:(1:Int)<=(n:Int):=by omega
 have hro:=World.ownsRow_made (base:=w.heap.size) (size:=1) (e:=5) w #[] 0 (Nat.le_refl _) (by decide) rfl;have hBs:=(Below.refl w.heap.size w).alloc (Nat.le_refl _) (.cells #[] 5);go_enter Tryz.func42,Tryz.ntmps42;go_wp2
 go_loopw [5,6] (fun u i wr=>∃ j:Nat,j<=n∧i=.int .i64 ((n:Int)-1-(j:Int))∧wr.ownsRow w.heap.size 5 1 u j (Nm.bys ((bigL v n).take j))∧Below w.heap.size w wr) (fun _ i _=>(intOf i+1).toNat)
 case atStart=>exact⟨0,by omega,by congr 1;omega,hro,hBs⟩
 case round=>
  clear hro hBs;obtain⟨j,hj8,rfl,hown,hbel⟩:=hrel;obtain⟨xa,xc,rfl⟩:=own_sl hown;have hBr:=hbel.size
  by_cases hlt:j<n
  ·obtain⟨i,hi⟩:∃ i:Nat,(n:Int)-1-(j:Int)=(i:Int):=⟨n-1-j,by omega⟩;have hi7:i<=7:=by omega
   rw [hi];have i1:(0:Int)<=(i:Int):=by omega
   have i2:(i:Int)<=7:=by omega
   have HT:=Nm.hide (show Nm.bys ((bigL v n).take (j+1))=Nm.bys ((bigL v n).take j)++[.int .u8 ((v:Int) / 2 ^ (8*i) % 256)] by
    have h7:n-1-j=i:=by omega
    rw [bigL_take hlt,h7])
   have HI:=Nm.hide hi;clear hi;go_wp2_with (at_builtin;refine wpList_append_own _ rfl (.tmp 14) (.tmp 21) 22 rfl w.heap.size 5 j0 (.int .u8 0) 1 1 Tryz.underlying22 hj k0 k1 k2 rfl (by decide) _ _ _ rfl (hown.alloc _) ⟨wr.heap.size,0,none⟩ 1 1 [.int .u8 ((v:Int) / 2 ^ (8*i) % 256)] rfl rfl (cell_one_new _ _ _) (Nm.one_cell _ rfl) (by unfold maxLen;omega) (by omega) (by simp;omega) ?_;intro vb wb hown8 hgrow8 hnl8;clear hnl8)
   rw [<- HT.out] at hown8;have hrow:∀ q,Value.ownBlock (.slice xa j xc)=some q->w.heap.size<=q:=fun q hq=>(hown.lt q hq).1
   have hB8:Below w.heap.size w wb:=(hbel.alloc hBr _).grown hgrow8 (by rw [World.size_alloc];omega) hrow;obtain⟨za,zc,rfl⟩:=own_sl hown8;clear hgrow8 hown hbel;have hi:=HI.out;go_roundw
   case rel=>exact⟨j+1,by omega,by go_num,hown8,hB8⟩
   case measure=>simp [intOf]
  ·obtain rfl:j=n:=by omega
   rw [List.take_of_length_le (by rw [bigL_len];omega)] at hown;have HC:=Nm.conv_own (P:=Tryz.prog) (src:=22) (dst:=9) Tryz.underlying22 Tryz.underlying5 Tryz.underlying9 hown (by omega);obtain⟨g,cap,hv',hcv⟩:=HC;cases hv'
   have hneg:¬(0:Int)<=(j:Int)-1-(j:Int):=by omega
   go_wp2;go_ret;exact⟨rfl,hbel⟩
theorem bigZ(v n:Nat):(⟨(bigL v n).toArray⟩:ByteArray).size=n:=by rw [mk_len,bigL_len]
theorem l02PutZ_any(v n:Nat)(w:World)(hv:v<=4611686018427387904)(hn1:1<=n)(hn:n<=8):
 Calls Tryz.prog 42 #[.int .i64 (v:Int),.int .i64 (n:Int)] w fun e w'=>∃ s:ByteArray,e=.returned (.string s)∧s.size=n∧Below w.heap.size w w':=
 (l02PutN_any v n w hv hn1 hn).mono fun e w' ⟨h1,h2⟩=>⟨_,h1,bigZ v n,h2⟩
def soaD(ap b:ByteArray):ByteArray:=subS [⟨#[110,115,49]⟩] ap++subS [⟨#[97,100,109,105,110]⟩] ap++b
set_option maxRecDepth 100000 in
set_option maxHeartbeats 3200000 in
theorem l05Soa_any(ap:ByteArray)(sr lo:Nat)(tt:Int)(w:World)(ha:ap.size<=1000)(hs:sr<=4294967296)(hlo:lo<=4294967296):
 Calls Tryz.prog 18 #[.string ap,.int .i64 (sr:Int),.int .i64 tt,.int .i64 (lo:Int)] w fun e w'=>∃ b:ByteArray,e=.returned (.agg #[.string ap,.int .i64 6,.int .i64 1,.int .i64 tt,.string (soaD ap b)])∧b.size=20∧Below w.heap.size w w':=by
 have hS1:∀ (W:World) (p:Nat),p=W.heap.size->Calls Tryz.prog 19 #[.slice (some ⟨p,0,none⟩) 1 1,.string ap] (W.alloc (.cells #[.string ⟨#[110,115,49]⟩] 9)) fun e w'=>∃ s:ByteArray,e=.returned (.string s)∧s=subS [⟨#[110,115,49]⟩] ap∧Below W.heap.size W w':=fun W p hp=>by
  subst hp;exact(l05SubS_any _ _ ap _ (srow1 W ⟨#[110,115,49]⟩) (by decide) (by omega)).mono fun e w' ⟨h1,h3⟩=>⟨_,h1,rfl,Nm.below_two ((Below.refl _ _).alloc (Nat.le_refl _) _) h3⟩
 have hS2:∀ (W:World) (p:Nat),p=W.heap.size->Calls Tryz.prog 19 #[.slice (some ⟨p,0,none⟩) 1 1,.string ap] (W.alloc (.cells #[.string ⟨#[97,100,109,105,110]⟩] 9)) fun e w'=>∃ s:ByteArray,e=.returned (.string s)∧s=subS [⟨#[97,100,109,105,110]⟩] ap∧Below W.heap.size W w':=fun W p hp=>by
  subst hp;exact(l05SubS_any _ _ ap _ (srow1 W ⟨#[97,100,109,105,110]⟩) (by decide) (by omega)).mono fun e w' ⟨h1,h3⟩=>⟨_,h1,rfl,Nm.below_two ((Below.refl _ _).alloc (Nat.le_refl _) _) h3⟩
 have hP1:=fun W=>l02PutZ_any sr 4 W (by omega) (by decide) (by decide)
 have hP2:=fun W=>l02PutZ_any 7200 4 W (by decide) (by decide) (by decide)
 have hP3:=fun W=>l02PutZ_any 900 4 W (by decide) (by decide) (by decide)
 have hP4:=fun W=>l02PutZ_any 86400 4 W (by decide) (by decide) (by decide)
 have hP5:=fun W=>l02PutZ_any lo 4 W (by omega) (by decide) (by decide)
 have b0:=(Below.refl w.heap.size w).alloc (Nat.le_refl _) (.cells #[.string ByteArray.empty,.int .i64 0,.int .i64 0,.int .i64 0,.string ByteArray.empty] 33);have k0:=blk_new w #[.string ByteArray.empty,.int .i64 0,.int .i64 0,.int .i64 0,.string ByteArray.empty] 33;go_enter Tryz.func18,Tryz.ntmps18;go_wp2_with fail
 refine(hS1 _ _ (by simp)).mono ?_;rintro e w1 ⟨s1,rfl,z1,b1⟩;have Z1:=Nm.hide z1;have y1:s1.size<=2000:=by rw [z1,sub_len,show Nm.wsum [(⟨#[110,115,49]⟩:ByteArray)]=4 from rfl];omega
 clear z1;have bw1:=Nm.below_two b0 b1;have k1:=blk_below k0 b1;go_wp2_with fail
 refine(hS2 _ _ (by simp)).mono ?_;rintro e w2 ⟨s2,rfl,z2,b2⟩;have Z2:=Nm.hide z2;have y2:s2.size<=2000:=by rw [z2,sub_len,show Nm.wsum [(⟨#[97,100,109,105,110]⟩:ByteArray)]=6 from rfl];omega
 clear z2;have bw2:=Nm.below_two bw1 b2;have k2:=blk_below k1 b2;go_wp2_with fail
 refine(hP1 _).mono ?_;rintro e w3 ⟨s3,rfl,z3,b3⟩;have Z3:=Nm.hide z3;have y3:s3.size<=2000:=by omega
 clear z3;have bw3:=Nm.below_two bw2 b3;have k3:=blk_below k2 b3;go_wp2_with fail
 refine(hP2 _).mono ?_;rintro e w4 ⟨s4,rfl,z4,b4⟩;have Z4:=Nm.hide z4;have y4:s4.size<=2000:=by omega
 clear z4;have bw4:=Nm.below_two bw3 b4;have k4:=blk_below k3 b4;go_wp2_with fail
 refine(hP3 _).mono ?_;rintro e w5 ⟨s5,rfl,z5,b5⟩;have Z5:=Nm.hide z5;have y5:s5.size<=2000:=by omega
 clear z5;have bw5:=Nm.below_two bw4 b5;have k5:=blk_below k4 b5;go_wp2_with fail
 refine(hP4 _).mono ?_;rintro e w6 ⟨s6,rfl,z6,b6⟩;have Z6:=Nm.hide z6;have y6:s6.size<=2000:=by omega
 clear z6;have bw6:=Nm.below_two bw5 b6;have k6:=blk_below k5 b6;go_wp2_with fail
 refine(hP5 _).mono ?_;rintro e w7 ⟨s7,rfl,z7,b7⟩;have Z7:=Nm.hide z7;have y7:s7.size<=2000:=by omega
 clear z7;have bw7:=Nm.below_two bw6 b7;have k7:=blk_below k6 b7;have fz:=fun i=>blk_frozen k7 i
 have rz:=fun i=>blk_cell k7 i
 have HD:Hid ((s3++s4++s5++s6++s7).size=20):=by
  show _=_
  simp only [ByteArray.size_append];have h3:=Z3.out;have h4:=Z4.out;have h5:=Z5.out;have h6:=Z6.out;have h7:=Z7.out;omega
 have HV:Hid (s1++s2++s3++s4++s5++s6++s7=soaD ap (s3++s4++s5++s6++s7)):=by
  show _=_
  rw [soaD,<- Z1.out,<- Z2.out];simp only [ByteArray.append_assoc]
 have kE:=setAll_new [.string ap,.int .i64 6,.int .i64 1,.int .i64 tt,.string (s1++s2++s3++s4++s5++s6++s7)] k7 rfl;have eE:setAll w7 w.heap.size 0 [.string ap,.int .i64 6,.int .i64 1,.int .i64 tt,.string (s1++s2++s3++s4++s5++s6++s7)]=(((((w7).setCell ⟨w.heap.size,0,none⟩ (.string ap)).setCell ⟨w.heap.size,1,none⟩ (.int .i64 6)).setCell ⟨w.heap.size,2,none⟩ (.int .i64 1)).setCell ⟨w.heap.size,3,none⟩ (.int .i64 tt)).setCell ⟨w.heap.size,4,none⟩ (.string (s1++s2++s3++s4++s5++s6++s7)):=rfl
 have bE:Below w.heap.size w (setAll w7 w.heap.size 0 [.string ap,.int .i64 6,.int .i64 1,.int .i64 tt,.string (s1++s2++s3++s4++s5++s6++s7)]):=by
  rw [eE];exact((((bw7.setCell (Nat.le_refl _) _).setCell (Nat.le_refl _) _).setCell (Nat.le_refl _) _).setCell (Nat.le_refl _) _).setCell (Nat.le_refl _) _
 have HE:=Nm.hide (And.intro eE (And.intro bE (fun i=>blk_cell kE i)));clear eE bE kE bw1 bw2 bw3 bw4 bw5 bw6 bw7 k0 k1 k2 k3 k4 k5 k6 k7 b0 b1 b2 b3 b4 b5 b6 b7;go_wp2;obtain⟨eE,bE,rE⟩:=HE.out;rw [<- eE];refine bodyPost_ret (v:=.agg #[.string ap,.int .i64 6,.int .i64 1,.int .i64 tt,.string (s1++s2++s3++s4++s5++s6++s7)]) ?_ rfl ⟨s3++s4++s5++s6++s7,by rw [<- HV.out],HD.out,bE⟩;simp [results,Tryz.results18,go_sem,Result.andThen,rE]
def zTs:List Nat:=[16,13,33,35,257,99]
def letZ(c:UInt8):Nat:=if c=110 then 1000 else if c=115 then 771 else 300
def wtZ(cs:List UInt8):Nat:=(cs.map letZ).sum
theorem wtZ_snoc(cs:List UInt8)(c:UInt8):wtZ (cs++[c])=wtZ cs+letZ c:=by simp [wtZ]
theorem wtZ_take(cs:List UInt8)(k:Nat):wtZ (cs.take k)<=wtZ cs:=by
 have e:wtZ cs=wtZ (cs.take k)+wtZ (cs.drop k):=by
  simp only [wtZ];rw [<- List.sum_append,<- List.map_append,List.take_append_drop]
 omega
theorem formZ{t:Nat}(h:t∈zTs):wtZ (Dt.formS t).data.toList<=3100∧∀ c∈(Dt.formS t).data.toList,c≠109:=by
 simp only [zTs,List.mem_cons,List.not_mem_nil,or_false] at h
 rcases h with rfl|rfl|rfl|rfl|rfl|rfl<;>decide
set_option maxRecDepth 100000 in
set_option maxHeartbeats 3200000 in
theorem l02DataZ_any(t:Nat)(ht:t∈zTs)(g:Nat)(a:Option Addr)(n cap:Nat)(w:World)(h:Src w g a n cap):
 Calls Tryz.prog 76 #[.pointer (some ⟨g,0,none⟩),.int .i64 (t:Int)] w fun e w'=>∃ d:ByteArray,e=.returned (.string d)∧d.size<=3100∧Src w' g a n cap∧w.grownBy w' (some g):=by
 have hform:=l02Form_any t;obtain⟨hf1,hf2⟩:=form_ok t;obtain⟨hwt,hno⟩:=formZ ht;generalize Dt.formS t=f at*;go_enter Tryz.func76,Tryz.ntmps76;go_wp2_with (go_at_call 50;refine(hform _).mono ?_;rintro e wx ⟨rfl,hwx⟩;obtain rfl:=hwx.symm;clear hwx)
 go_loopw [6,7] (fun o i wr=>∃ (k:Nat) (D:ByteArray),k<=f.size∧i=.int .i64 k∧o=.string D∧D.size<=wtZ (f.data.toList.take k)∧Src wr g a n cap∧w.grownBy wr (some g)) (fun _ i _=>f.size-(intOf i).toNat)
 case atStart=>exact⟨0,⟨#[]⟩,Nat.zero_le _,rfl,rfl,Nat.zero_le _,h,World.grownBy.refl _ _⟩
 case round=>
  obtain⟨k,D,hk,rfl,rfl,hsz,hsrc,hgr⟩:=hrel;clear h hform;have hwk:wtZ (f.data.toList.take k)<=3100:=Nat.le_trans (wtZ_take _ k) hwt
  by_cases hlt:k<f.size
  ·have hlt':(k:Int)<(f.size:Int):=by omega
   have HT:Hid (f.data.toList.take (k+1)=f.data.toList.take k++[f[k]]):=by
    show _=_
    rw [List.take_add_one,Nm.get_data hlt];rfl
   have hnk:f[k]≠109:=hno _ (by
    have:=Nm.get_data hlt
    exact List.mem_of_getElem? this)
   clear hno
   rcases hf2 k hlt with hc|hc|hc|hc|hc|hc|hc
   ·skip
    have hv:f[k].toNat=110:=by rw [hc];rfl
    have q0:((f[k].toNat:Int)==110)=true:=by rw [beq_iff_eq];omega
    have hw:letZ f[k]=1000:=by rw [hc];rfl
    clear hf2 hnk
    go_wp2_with (
     go_at_call 40
     refine(l01Name_any g a n cap _ hsrc).mono ?_;rintro e w3 ⟨x,rfl,hx1,hx2,hsE,hg3⟩;have hgE:=grown_step hgr hg3
     have hfit:D.size+x.size<=9223372036854775807:=by omega)
    go_roundw
    case rel=>exact⟨k+1,D++x,by omega,by go_num,rfl,by rw [HT.out,wtZ_snoc,ByteArray.size_append];omega,hsE,hgE⟩
    case measure=>simp [intOf];omega
   ·skip
    have hv:f[k].toNat=98:=by rw [hc];rfl
    have q0:((f[k].toNat:Int)==110)=false:=by rw [beq_eq_false_iff_ne];omega
    have q1:((f[k].toNat:Int)==98)=true:=by rw [beq_iff_eq];omega
    have hw:letZ f[k]=300:=by rw [hc];rfl
    clear hf2 hnk;go_wp2_with fail
    refine(l01Next_any g a n cap 3 _ hsrc (by decide)).mono ?_;rintro e w3 ⟨r,rfl,hr0,hr1,hs3,hg3⟩;have hgg3:=grown_step hgr hg3
    by_cases hz:r=0
    ·subst hz
     go_wp2_with (
      go_at_call 37
      refine(l01Bytes_any g a n cap 1 _ hs3 (by decide) (by decide)).mono ?_;rintro e w4 ⟨x,rfl,hx,hsE,hg4⟩;have hgE:=grown_step hgg3 hg4
      have hfit:D.size+x.size<=9223372036854775807:=by omega)
     go_roundw
     case rel=>exact⟨k+1,D++x,by omega,by go_num,rfl,by rw [HT.out,wtZ_snoc,ByteArray.size_append];omega,hsE,hgE⟩
     case measure=>simp [intOf];omega
    ·have hz':(r==0)=false:=by rw [beq_eq_false_iff_ne];exact hz
     have hsE:=hs3;have hgE:=hgg3;have hx1:(⟨#[0]⟩:ByteArray).size=1:=rfl;have hfit:D.size+1<=9223372036854775807:=by omega
     go_wp2;go_roundw
     case rel=>exact⟨k+1,D++(⟨#[0]⟩:ByteArray),by omega,by go_num,rfl,by rw [HT.out,wtZ_snoc,ByteArray.size_append];omega,hsE,hgE⟩
     case measure=>simp [intOf];omega
   ·skip
    have hv:f[k].toNat=116:=by rw [hc];rfl
    have q0:((f[k].toNat:Int)==110)=false:=by rw [beq_eq_false_iff_ne];omega
    have q1:((f[k].toNat:Int)==98)=false:=by rw [beq_eq_false_iff_ne];omega
    have q2:((f[k].toNat:Int)==116)=true:=by rw [beq_iff_eq];omega
    have hw:letZ f[k]=300:=by rw [hc];rfl
    clear hf2 hnk
    go_wp2_with (
     go_at_call 104
     refine(l02Short_any g a n cap _ hsrc).mono ?_;rintro e w3 ⟨x,rfl,hx1,hx2,hsE,hg3⟩;have hgE:=grown_step hgr hg3
     have hfit:D.size+x.size<=9223372036854775807:=by omega)
    go_roundw
    case rel=>exact⟨k+1,D++x,by omega,by go_num,rfl,by rw [HT.out,wtZ_snoc,ByteArray.size_append];omega,hsE,hgE⟩
    case measure=>simp [intOf];omega
   ·skip
    have hv:f[k].toNat=115:=by rw [hc];rfl
    have q0:((f[k].toNat:Int)==110)=false:=by rw [beq_eq_false_iff_ne];omega
    have q1:((f[k].toNat:Int)==98)=false:=by rw [beq_eq_false_iff_ne];omega
    have q2:((f[k].toNat:Int)==116)=false:=by rw [beq_eq_false_iff_ne];omega
    have q3:((f[k].toNat:Int)==115)=true:=by rw [beq_iff_eq];omega
    have hw:letZ f[k]=771:=by rw [hc];rfl
    clear hf2 hnk;go_wp2_with fail
    refine(l01Next_any g a n cap 3 _ hsrc (by decide)).mono ?_;rintro e w3 ⟨r,rfl,hr0,hr1,hs3,hg3⟩;have hr2:=hr1 (by decide);obtain⟨r,rfl⟩:=Int.eq_ofNat_of_zero_le hr0;have hgg3:=grown_step hgr hg3;clear hr1 hg3;go_wp2
    go_loopw [6,9] (fun o i wr=>∃ (j:Nat) (y:ByteArray),j<=1+r∧i=.int .i64 j∧o=.string (D++y)∧y.size<=257*j∧Src wr g a n cap∧w.grownBy wr (some g)) (fun _ i _=>1+r-(intOf i).toNat)
    case atStart=>exact⟨0,ByteArray.empty,by omega,rfl,by simp,by decide,hs3,hgg3⟩
    case round=>
     obtain⟨j,y,hj,rfl,rfl,hy,hs5,hg5⟩:=hrel;clear hs3 hgg3
     by_cases hlj:j<1+r
     ·have hlj':(j:Int)<1+(r:Int):=by omega
      go_wp2_with (
       go_at_call 104
       refine(l02Short_any g a n cap _ hs5).mono ?_;rintro e w6 ⟨x,rfl,hx1,hx2,hs6,hg6⟩;have hg56:=grown_step hg5 hg6
       have hfit:(D++y).size+x.size<=9223372036854775807:=by rw [ByteArray.size_append];omega)
      go_roundw
      case rel=>exact⟨j+1,y++x,by omega,by go_num,by rw [ByteArray.append_assoc],by rw [ByteArray.size_append];omega,hs6,hg56⟩
      case measure=>simp [intOf];omega
     ·obtain rfl:j=1+r:=by omega
      have hsE:=hs5;have hgE:=hg5;go_wp2;go_roundw
      case rel=>exact⟨k+1,D++y,by omega,by go_num,rfl,by rw [HT.out,wtZ_snoc,ByteArray.size_append];omega,hsE,hgE⟩
      case measure=>simp [intOf];omega
   ·skip
    have hv:f[k].toNat=99:=by rw [hc];rfl
    have q0:((f[k].toNat:Int)==110)=false:=by rw [beq_eq_false_iff_ne];omega
    have q1:((f[k].toNat:Int)==98)=false:=by rw [beq_eq_false_iff_ne];omega
    have q2:((f[k].toNat:Int)==116)=false:=by rw [beq_eq_false_iff_ne];omega
    have q3:((f[k].toNat:Int)==115)=false:=by rw [beq_eq_false_iff_ne];omega
    have q4:((f[k].toNat:Int)==99)=true:=by rw [beq_iff_eq];omega
    have hw:letZ f[k]=300:=by rw [hc];rfl
    clear hf2 hnk
    go_wp2_with (
     go_at_call 104
     refine(l02Short_any g a n cap _ hsrc).mono ?_;rintro e w3 ⟨x,rfl,hx1,hx2,hsE,hg3⟩;have hgE:=grown_step hgr hg3;have hx1':(1:Int)<=(x.size:Int):=by omega
     have hxe:(x.extract 1 x.size).size=x.size-1:=by simp
     have hd5:(⟨#[5]⟩:ByteArray).size=1:=rfl
     have hdi:(⟨#[105,115,115,117,101]⟩:ByteArray).size=5:=rfl)
    go_roundw
    case rel=>exact⟨k+1,D++(⟨#[5]⟩++(⟨#[105,115,115,117,101]⟩++x.extract 1 x.size)),by omega,by go_num,by rw [ByteArray.append_assoc,ByteArray.append_assoc],by rw [HT.out,wtZ_snoc,ByteArray.size_append,ByteArray.size_append,ByteArray.size_append];omega,hsE,hgE⟩
    case measure=>simp [intOf];omega
   ·exact absurd hc hnk
   ·skip
    have hv:f[k].toNat=42:=by rw [hc];rfl
    have q0:((f[k].toNat:Int)==110)=false:=by rw [beq_eq_false_iff_ne];omega
    have q1:((f[k].toNat:Int)==98)=false:=by rw [beq_eq_false_iff_ne];omega
    have q2:((f[k].toNat:Int)==116)=false:=by rw [beq_eq_false_iff_ne];omega
    have q3:((f[k].toNat:Int)==115)=false:=by rw [beq_eq_false_iff_ne];omega
    have q4:((f[k].toNat:Int)==99)=false:=by rw [beq_eq_false_iff_ne];omega
    have q5:((f[k].toNat:Int)==109)=false:=by rw [beq_eq_false_iff_ne];omega
    have q6:((f[k].toNat:Int)==42)=true:=by rw [beq_iff_eq];omega
    have hw:letZ f[k]=300:=by rw [hc];rfl
    clear hf2 hnk
    go_wp2_with first
     |(
      go_at_call 14
      refine(l01Next_any g a n cap 12 _ hsrc (by decide)).mono ?_;rintro e w3 ⟨r,rfl,hr0,hr1,hs3,hg3⟩;have hr2:=hr1 (by decide)
      have hgg3:=grown_step hgr hg3)
     |(
      go_at_call 37
      refine(l01Bytes_any g a n cap r _ hs3 (by omega) (by omega)).mono ?_;rintro e w4 ⟨x,rfl,hx,hsE,hg4⟩;have hgE:=grown_step hgg3 hg4
      have hfit:D.size+x.size<=9223372036854775807:=by omega)
    go_roundw
    case rel=>exact⟨k+1,D++x,by omega,by go_num,rfl,by rw [HT.out,wtZ_snoc,ByteArray.size_append];omega,hsE,hgE⟩
    case measure=>simp [intOf];omega
  ·obtain rfl:k=f.size:=by omega
   have hall:f.data.toList.take f.size=f.data.toList:=List.take_of_length_le (by simp);rw [hall] at hsz;have i1:(f.size:Int)<=(f.size:Int):=by omega
   go_wp2;go_ret;exact⟨_,rfl,by omega,hsrc,hgr⟩
end Go.Proofs.YtmdinnjimioffaaGreat
