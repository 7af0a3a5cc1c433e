import Derived.Test.YtmdinnjimioffaaGreatJCmpM
import Derived.Laws.CopyRow
import Derived.Lib.AppendZerosOnto
import Derived.Lib.Overlaps
import Derived.Test.YtmdinnjimioffaaGreatJCmp
import Derived.Test.YtmdinnjimioffaaGreatJData1
import Derived.Test.YtmdinnjimioffaaGreatJOrdL
namespace Go.Proofs.YtmdinnjimioffaaGreat
open Go.RowKit
theorem bless_self:∀ l:List UInt8,Op.bytesLess l l=false:=by
 intro l
 induction l with
 |nil=>rfl
 |cons x l ih=>simp [Op.bytesLess,ih]
theorem ordL_zero(a b:List UInt8):Nm.ordL a b=0↔a=b:=by
 constructor
 ·intro h
  by_cases h1:Op.bytesLess a b=true
  ·rw [Nm.ordL,if_pos h1] at h;omega
  ·rw [Nm.ordL,if_neg h1] at h
   by_cases h2:a=b
   ·exact h2
   ·rw [if_neg h2] at h;omega
 ·intro h;subst h;rw [Nm.ordL,if_neg (by simp [bless_self]),if_pos rfl]
def sameS(a b:ByteArray):Bool:=(Nm.split a).isSome&&(Nm.split b).isSome&&decide (Nm.ordS a b=0)
theorem same_left{a b:ByteArray}(h:Nm.split a=none):sameS a b=false:=by simp [sameS,h]
theorem same_right{a b:ByteArray}(h:Nm.split b=none):sameS a b=false:=by simp [sameS,h]
theorem same_some{a b:ByteArray}{xs ys:List ByteArray}(ha:Nm.split a=some xs)(hb:Nm.split b=some ys):sameS a b=decide (Nm.ordS a b=0):=by simp [sameS,ha,hb]
theorem small_pos{a:ByteArray}{xs:List ByteArray}(h:Nm.split a=some xs):(Nm.small a).toList.isEmpty=false:=by
 apply Nm.tl_not_empty;rw [Nm.small_size];have:=Nm.split_size h;omega
theorem small_eq(a b:ByteArray):((Nm.small a).toList==(Nm.small b).toList)=decide (Nm.ordS a b=0):=by
 rw [Bool.eq_iff_iff];simp only [beq_iff_eq,decide_eq_true_eq,Nm.ordS,ordL_zero];rw [ByteArray.toList_eq,ByteArray.toList_eq,Nm.small_data,Nm.small_data]
end Go.Proofs.YtmdinnjimioffaaGreat
namespace Go.Proofs.YtmdinnjimioffaaGreat
open Go.RowKit
theorem splitF_of:∀ (zs:List ByteArray) (f:Nat) (r:ByteArray),r.data.toList=Nm.joinL zs->(∀ x∈zs,1<=x.size∧x.size<=63)->r.size<f->Nm.splitF f r=some zs:=by
 intro zs
 induction zs with
 |nil=>
  intro f r hd _ hf;have hsz:r.size=1:=by have:=congrArg List.length hd;simpa [Nm.joinL,Nm.preL] using this
  have hp:0<r.size:=by omega
  have h0:r[0].toNat=0:=by
   have e:=Nm.get_data hp;rw [hd] at e;have:r[0]=0:=by simpa [Nm.joinL,Nm.preL] using e.symm
   rw [this];rfl
  obtain⟨g,rfl⟩:∃ g,f=g+1:=⟨f-1,by omega⟩
  exact Nm.splitF_end g r hp h0 hsz
 |cons x t ih=>
  intro f r hd hx hf;have hx0:=hx x List.mem_cons_self
  have hlen:r.size=(1+x.size)+Nm.wsum t+1:=by
   have:=congrArg List.length hd;rw [Nm.joinL_length] at this;simp only [Nm.wsum] at this;simpa using this
  have hp:0<r.size:=by omega
  have e0:r[0]=UInt8.ofNat x.size:=by
   have e:=Nm.get_data hp;rw [hd] at e;simpa [Nm.joinL,Nm.preL] using e.symm
  have hn:r[0].toNat=x.size:=by rw [e0];simp;omega
  have hd2:r.data.toList=UInt8.ofNat x.size::(x.data.toList++Nm.joinL t):=by rw [hd];simp [Nm.joinL,Nm.preL]
  have xl:x.data.toList.length=x.size:=by simp
  have c1:r.extract 1 (x.size+1)=x:=by
   apply Nm.ba_ext;have e1:(r.extract 1 (x.size+1)).data.toList=(r.data.toList.drop 1).take x.size:=by simp
   rw [e1,hd2,List.drop_succ_cons,List.drop_zero,<- xl,List.take_left]
  have c2:(r.extract (x.size+1) r.size).data.toList=Nm.joinL t:=by
   have e2:(r.extract (x.size+1) r.size).data.toList=(r.data.toList.drop 1).drop x.size:=by
    simp only [ByteArray.data_extract,Array.toList_extract,List.drop_drop];rw [List.extract_eq_take_drop,List.take_of_length_le (by simp)];congr 1;omega
   rw [e2,hd2,List.drop_succ_cons,List.drop_zero,<- xl,List.drop_left]
  obtain⟨g,rfl⟩:∃ g,f=g+1:=⟨f-1,by omega⟩;rw [Nm.splitF_step g r hp (by omega) (by omega) (by omega),hn,c1,ih g _ c2 (fun y hy=>hx y (List.mem_cons_of_mem _ hy)) (by simp;omega)];rfl
theorem split_of_join{zs:List ByteArray}(h:∀ x∈zs,1<=x.size∧x.size<=63)(hw:Nm.wsum zs<=254):Nm.split ⟨(Nm.joinL zs).toArray⟩=some zs:=by
 have hsz:(ByteArray.mk (Nm.joinL zs).toArray).size=Nm.wsum zs+1:=by
  show(Nm.joinL zs).toArray.size=_
  rw [List.size_toArray,Nm.joinL_length]
 rw [Nm.split_short _ (by omega)];exact splitF_of zs 256 _ (by simp) h (by omega)
theorem ordS_zero(x y:ByteArray):Nm.ordS x y=0↔Nm.small x=Nm.small y:=by
 rw [Nm.ordS,ordL_zero];constructor
 ·intro h;apply Nm.ba_ext;rw [Nm.small_data,Nm.small_data,h]
 ·intro h;rw [<- Nm.small_data,<- Nm.small_data,h]
theorem cmpRev_zero:∀ (a b:List ByteArray),Nm.cmpRev a b=0↔a.map Nm.small=b.map Nm.small:=by
 intro a
 induction a with
 |nil=>
  intro b
  cases b with
  |nil=>simp [Nm.cmpRev]
  |cons y b=>simp [Nm.cmpRev]
 |cons x a ih=>
  intro b
  cases b with
  |nil=>simp [Nm.cmpRev]
  |cons y b=>
   rw [Nm.cmpRev]
   by_cases h:Nm.ordS x y=0
   ·rw [if_pos h,ih b];simp [(ordS_zero x y).1 h]
   ·rw [if_neg h];have hne:Nm.small x≠Nm.small y:=fun e=>h ((ordS_zero x y).2 e)
    simp [h,hne]
theorem cmpLs_zero(a b:List ByteArray):Nm.cmpLs a b=0↔a.map Nm.small=b.map Nm.small:=by
 rw [Nm.cmpLs,cmpRev_zero,List.map_reverse,List.map_reverse];constructor
 ·intro h;exact List.reverse_inj.1 h
 ·intro h;rw [h]
theorem smallL_joinL{zs:List ByteArray}(h:∀ x∈zs,1<=x.size∧x.size<=63):Nm.smallL (Nm.joinL zs)=Nm.joinL (zs.map Nm.small):=by
 simp only [Nm.joinL];rw [Nm.preL_small zs (fun x hx=>(h x hx).2)];simp [Nm.smallL,Nm.low]
theorem join_inj{a b:List ByteArray}(ha:∀ x∈a,1<=x.size∧x.size<=63)(hb:∀ x∈b,1<=x.size∧x.size<=63)(wa:Nm.wsum a<=254)(wb:Nm.wsum b<=254)(h:Nm.joinL a=Nm.joinL b):a=b:=by
 have h1:=split_of_join ha wa;have h2:=split_of_join hb wb;rw [h] at h1;rw [h1] at h2;exact Option.some.inj h2
theorem small_ok{zs:List ByteArray}(h:∀ x∈zs,1<=x.size∧x.size<=63):∀ x∈zs.map Nm.small,1<=x.size∧x.size<=63:=by
 intro x hx;obtain⟨y,hy,rfl⟩:=List.mem_map.1 hx;rw [Nm.small_size];exact h y hy
def underB(xs ys:List ByteArray):Bool:=decide (ys.length<=xs.length)&&decide (Nm.cmpLs (xs.drop (xs.length-ys.length)) ys=0)
theorem ord_join{zs ys:List ByteArray}{b:ByteArray}(hz:∀ x∈zs,1<=x.size∧x.size<=63)(wz:Nm.wsum zs<=254)(hb:Nm.split b=some ys):
 Nm.ordS ⟨(Nm.joinL zs).toArray⟩ b=0↔Nm.cmpLs zs ys=0:=by
 obtain⟨hj,hy⟩:=Nm.split_join hb;obtain⟨wy,wy2⟩:=Nm.split_size hb;rw [Nm.ordS,ordL_zero,cmpLs_zero];simp only
 rw [<- hj,smallL_joinL hz,smallL_joinL hy];constructor
 ·intro h;exact join_inj (small_ok hz) (small_ok hy) (by rw [Nm.wsum_small];omega) (by rw [Nm.wsum_small];omega) h
 ·intro h;rw [h]
def isUnderS(a b:ByteArray):Bool:=
 match Nm.split a,Nm.split b with
 |some xs,some ys=>underB xs ys
 |_,_=>false
theorem isUnder_left{a b:ByteArray}(h:Nm.split a=none):isUnderS a b=false:=by simp [isUnderS,h]
theorem isUnder_right{a b:ByteArray}(h:Nm.split b=none):isUnderS a b=false:=by
 cases ha:Nm.split a<;>simp [isUnderS,h,ha]
theorem isUnder_some{a b:ByteArray}{xs ys:List ByteArray}(ha:Nm.split a=some xs)(hb:Nm.split b=some ys):isUnderS a b=underB xs ys:=by simp [isUnderS,ha,hb]
theorem drop_ok{xs:List ByteArray}(h:∀ x∈xs,1<=x.size∧x.size<=63)(k:Nat):∀ x∈xs.drop k,1<=x.size∧x.size<=63:=
 fun x hx=>h x (List.mem_of_mem_drop hx)
theorem under_same{xs ys:List ByteArray}{a b:ByteArray}(ha:Nm.split a=some xs)(hb:Nm.split b=some ys)(hl:ys.length<=xs.length):
 sameS ⟨(Nm.joinL (xs.drop (xs.length-ys.length))).toArray⟩ b=underB xs ys:=by
 have hx:=(Nm.split_join ha).2;have hw:=Nm.split_size ha;have hd:=Nm.wsum_drop_le xs (xs.length-ys.length);have hs:=split_of_join (drop_ok hx (xs.length-ys.length)) (by omega);rw [same_some hs hb,underB];simp only [hl,decide_true,Bool.true_and];rw [Bool.eq_iff_iff];simp only [decide_eq_true_eq];exact ord_join (drop_ok hx _) (by omega) hb
end Go.Proofs.YtmdinnjimioffaaGreat
namespace Go.Proofs.YtmdinnjimioffaaGreat
open Go.RowKit
theorem cmpI_anti(a b:Int):Nm.cmpI b a= -Nm.cmpI a b:=by
 unfold Nm.cmpI
 split<;>split<;>first|omega|(split<;>omega)|skip
 all_goals simp_all<;>omega
theorem cmpI_le{a b:Int}(h:a≠b):Nm.cmpI a b<=0↔a<b:=by
 by_cases h1:a<b
 ·rw [Nm.cmpI_lt h1];simp [h1]
 ·rw [Nm.cmpI_gt (by omega)];simp [h1]
theorem ordL_anti:∀ (a b:List UInt8),Nm.ordL b a= -Nm.ordL a b
 |[],[]=>rfl
 |[],y::b=>rfl
 |x::a,[]=>rfl
 |x::a,y::b=>by
  by_cases h:x=y
  ·subst h;rw [Nm.ordL_same,Nm.ordL_same];exact ordL_anti a b
  ·rw [Nm.ordL_ne a b h,Nm.ordL_ne b a (Ne.symm h)];exact cmpI_anti _ _
theorem ordL_range(a b:List UInt8): -1<=Nm.ordL a b∧Nm.ordL a b<=1:=by
 unfold Nm.ordL;split
 ·omega
 ·split<;>omega
theorem ordL_trans:∀ (a b c:List UInt8),Nm.ordL a b<=0->Nm.ordL b c<=0->Nm.ordL a c<=0
 |[],b,[],_,_=>by rw [Nm.ordL_nil];decide
 |[],b,z::c,_,_=>by rw [Nm.ordL_left];decide
 |x::a,[],c,h,_=>by rw [Nm.ordL_right] at h;omega
 |x::a,y::b,[],_,h=>by rw [Nm.ordL_right] at h;omega
 |x::a,y::b,z::c,h1,h2=>by
  have inj:∀ {p q:UInt8},p≠q->(p.toNat:Int)≠(q.toNat:Int):=fun h e=>h (UInt8.toNat_inj.1 (by omega))
  by_cases hxy:x=y
  ·subst hxy
   by_cases hyz:x=z
   ·subst hyz;rw [Nm.ordL_same] at h1 h2 ⊢;exact ordL_trans a b c h1 h2
   ·rw [Nm.ordL_ne _ _ hyz] at h2 ⊢;exact h2
  ·rw [Nm.ordL_ne _ _ hxy,cmpI_le (inj hxy)] at h1
   by_cases hyz:y=z
   ·subst hyz;rw [Nm.ordL_ne _ _ hxy,cmpI_le (inj hxy)];exact h1
   ·rw [Nm.ordL_ne _ _ hyz,cmpI_le (inj hyz)] at h2;have hxz:x≠z:=fun e=>by subst e;omega
    rw [Nm.ordL_ne _ _ hxz,cmpI_le (inj hxz)];omega
theorem ordS_anti(x y:ByteArray):Nm.ordS y x= -Nm.ordS x y:=ordL_anti _ _
theorem ordS_swap{x y:ByteArray}(h:Nm.ordS x y=0)(z:ByteArray):Nm.ordS x z=Nm.ordS y z∧Nm.ordS z x=Nm.ordS z y:=by
 have e:=(ordL_zero _ _).1 h;unfold Nm.ordS;rw [e];exact⟨rfl,rfl⟩
theorem cmpRev_anti:∀ (a b:List ByteArray),Nm.cmpRev b a= -Nm.cmpRev a b
 |[],[]=>rfl
 |[],y::b=>rfl
 |x::a,[]=>rfl
 |x::a,y::b=>by
  rw [Nm.cmpRev,Nm.cmpRev,ordS_anti x y]
  by_cases h:Nm.ordS x y=0
  ·rw [if_pos h,if_pos (by omega)];exact cmpRev_anti a b
  ·rw [if_neg h,if_neg (by omega)]
theorem cmpRev_range:∀ (a b:List ByteArray),-1<=Nm.cmpRev a b∧Nm.cmpRev a b<=1
 |[],[]=>by rw [Nm.cmpRev];decide
 |[],y::b=>by rw [Nm.cmpRev];decide
 |x::a,[]=>by rw [Nm.cmpRev];decide
 |x::a,y::b=>by
  rw [Nm.cmpRev];split
  ·exact cmpRev_range a b
  ·exact ordL_range _ _
theorem cmpRev_trans:∀ (a b c:List ByteArray),Nm.cmpRev a b<=0->Nm.cmpRev b c<=0->Nm.cmpRev a c<=0
 |[],b,[],_,_=>by rw [Nm.cmpRev];decide
 |[],b,z::c,_,_=>by rw [Nm.cmpRev];decide
 |x::a,[],c,h,_=>by rw [Nm.cmpRev] at h;omega
 |x::a,y::b,[],_,h=>by rw [Nm.cmpRev] at h;omega
 |x::a,y::b,z::c,h1,h2=>by
  rw [Nm.cmpRev] at h1 h2 ⊢
  by_cases hxy:Nm.ordS x y=0
  ·rw [if_pos hxy] at h1;rw [(ordS_swap hxy z).1]
   by_cases hyz:Nm.ordS y z=0
   ·rw [if_pos hyz] at h2 ⊢;exact cmpRev_trans a b c h1 h2
   ·rw [if_neg hyz] at h2 ⊢;exact h2
  ·rw [if_neg hxy] at h1
   by_cases hyz:Nm.ordS y z=0
   ·rw [<- (ordS_swap hyz x).2,if_neg hxy];exact h1
   ·rw [if_neg hyz] at h2;have h3:Nm.ordS x z<=0:=ordL_trans _ _ _ h1 h2
    have hxz:Nm.ordS x z≠0:=by
     intro e;have e1:=(ordS_swap e y).1;have e2:=ordS_anti y z;omega
    rw [if_neg hxz];exact h3
theorem cmpLs_anti(a b:List ByteArray):Nm.cmpLs b a= -Nm.cmpLs a b:=cmpRev_anti _ _
theorem cmpLs_range(a b:List ByteArray): -1<=Nm.cmpLs a b∧Nm.cmpLs a b<=1:=cmpRev_range _ _
theorem cmpLs_trans{a b c:List ByteArray}(h1:Nm.cmpLs a b<=0)(h2:Nm.cmpLs b c<=0):Nm.cmpLs a c<=0:=cmpRev_trans _ _ _ h1 h2
theorem cmpLs_trans'{a b c:List ByteArray}(h1:0<=Nm.cmpLs a b)(h2:0<=Nm.cmpLs b c):0<=Nm.cmpLs a c:=by
 have e1:=cmpLs_anti a b;have e2:=cmpLs_anti b c;have e3:=cmpLs_anti a c;have:=cmpLs_trans (a:=c) (b:=b) (c:=a) (by omega) (by omega);omega
end Go.Proofs.YtmdinnjimioffaaGreat
namespace Go.Proofs.YtmdinnjimioffaaGreat
open Go.RowKit
set_option linter.unusedVariables false
theorem own_sl{w:World}{B e s n:Nat}{v:Value}{xs:List Value}(h:w.ownsRow B e s v n xs):∃ a cap,v=.slice a n cap:=by
 rcases h.2 with⟨rfl,rfl⟩|⟨g,cap,cur,rfl,_⟩
 ·exact⟨_,_,rfl⟩
 ·exact⟨_,_,rfl⟩
theorem own_far{W:World}{B e s n g i:Nat}{v y:Value}{xs:List Value}(h:W.ownsRow B e s v n xs)(hg:v.ownBlock≠some g):(W.setCell ⟨g,i,none⟩ y).ownsRow B e s v n xs:=by
 refine⟨h.1,?_⟩
 rcases h.2 with h0|⟨g',cap,cur,rfl,hb,hh,r⟩
 ·exact .inl h0
 ·refine .inr ⟨g',cap,cur,rfl,hb,?_,r⟩;rw [heap_setCell_other W ⟨g,i,none⟩ g' _ (fun e=>hg (by simp [Value.ownBlock,e]))];exact hh
theorem own_far_lt{W:World}{B e s n g i:Nat}{v y:Value}{xs:List Value}(h:W.ownsRow B e s v n xs)(hg:g<B):(W.setCell ⟨g,i,none⟩ y).ownsRow B e s v n xs:=by
 refine own_far h (fun e=>?_);have:=(h.lt g e).1;omega
theorem run_copy_rowK{P:Program}(w:World)(dT sT ty elem:TypeId)(g o dLen dCap:Nat)(a:Addr)(sLen sCap:Nat)(cur:Array Value)(t:TypeId)(cs:List Value)(sz:Nat)
 (hu:P.underlying dT=some (.slice elem)) (hs:(P.info? elem).map (·.size)=some sz)
 (hg:w.heap[g]? =some (.cells cur t (0,0))) (hn:cs.length=Nat.min sLen dLen*sz)
 (hsrc:∀ j v,cs[j]? =some v->w.cell? (a.add j)=some v) (hfit:o+cs.length<=cur.size) (h1:∀ v∈cs,v.oneCell'=true):
 (Builtin.copy_ #[dT,sT] ty #[.slice (some ⟨g,o,none⟩) dLen dCap,.slice (some a) sLen sCap]).run P w=
  .ok (goInt (Nat.min sLen dLen)) (w.setRow g (cur.toList.take o++cs++cur.toList.drop (o+cs.length)).toArray):=by
 have hl:=run_loadCells_list (P:=P) w a cs hsrc;have hst:=run_storeCells_at P g o t cs 0 cur w hg (by simpa using hfit) h1
 cases hq:P.info? elem with
 |none=>simp [hq] at hs
 |some i=>
  have hi:i.size=sz:=by simpa [hq] using hs
  simp [Builtin.copy_,run_underlying hu,Builtin.lenOf,Builtin.firstCells,sizeOf,typeInfo,hq,hi,<- hn,hl,hst]
theorem wpList_app_ranT{P:Program}{ops:Array Oper}{rest:List Oper}{o:Oper}{a:Act}{w:World}{Q:Exit->Act->World->Prop}(hgd:o.guard=none)(s x:Operand)(t t2:TypeId)
 (ho:o.op=.call {callee:=.builtin .append,args:=#[s,x],argTypes:=#[t,t2]}) (v u v':Value) (w':World) (hs:a.eval s=v) (hx:a.eval x=u)
 (hr:(Builtin.append_ #[t,t2] o.type #[v,u]).run P w=.ok v' w') (h:wpList P ops Q rest (a.put o.dst v') w'):wpList P ops Q (o::rest) a w:=
 wpList_plain hgd fun _ hK=>by
  unfold Oper.wp execOp;simp only [ho,resolve,invoke,builtin,Sem.run_bind,Sem.run_pure,Result.andThen_ok,List.map_toArray,List.map_cons,List.map_nil,hs,hx,hr];exact hK _ _ h
theorem setRow_blk{w:World}{g:Nat}{cur:Array Value}{t:TypeId}(hg:Blk w g cur t)(cs:Array Value):Blk (w.setRow g cs) g cs t:=by
 unfold Blk at*;have hlt:=(Array.getElem?_eq_some_iff.1 hg).1;have he:=(Array.getElem?_eq_some_iff.1 hg).2;simp [World.setRow,Array.getElem?_modify,hg]
theorem setRow_size(w:World)(g:Nat)(cs:Array Value):(w.setRow g cs).heap.size=w.heap.size:=by simp [World.setRow]
theorem setRow_grown(w:World)(g:Nat)(cs:Array Value):w.grownBy (w.setRow g cs) (some g):=
 ⟨rfl,rfl,rfl,by rw [setRow_size];exact Nat.le_refl _,fun k hk hne=>setRow_other w g k cs (fun e=>hne (by rw [e]))⟩
theorem own_of_blk{w:World}{B e s g n cap:Nat}{cur:Array Value}{xs:List Value}(hg:Blk w g cur e)(hB:B<=g)(hn:n<=cap)(hm:cap<=maxLen)(hs:cur.size=cap*s)(ht:cur.toList.take (n*s)=xs):w.ownsRow B e s (.slice (some ⟨g,0,none⟩) n cap) n xs:=by
 refine⟨?_,.inr ⟨g,cap,cur,rfl,hB,hg,hn,hm,hs,ht⟩⟩;rw [<- ht,List.length_take,Array.length_toList,hs,Nat.min_eq_left (Nat.mul_le_mul_right _ hn)]
theorem ins_room{cur xs:List Value}{i n cap:Nat}(x0 x1:Value)(hcl:cur.length=cap*2)(ht:cur.take (n*2)=xs)(hi:i<n)(hr:n+1<=cap):
 ∀ c1,c1=cur.take ((i+1)*2)++xs.drop (i*2)++cur.drop ((i+1)*2+(xs.drop (i*2)).length)->c1.length=cap*2∧∀ c2,c2=c1.take (i*2)++[x0,x1]++c1.drop (i*2+[x0,x1].length)->c2.length=cap*2∧c2.take ((n+1)*2)=xs.take (i*2)++[x0,x1]++xs.drop (i*2):=by
 intro c1 h1;have hxl:xs.length=n*2:=by rw [<- ht,List.length_take];omega
 have hdl:(xs.drop (i*2)).length=(n-i)*2:=by rw [List.length_drop,hxl];omega
 have htl:(cur.take ((i+1)*2)).length=(i+1)*2:=by rw [List.length_take];omega
 have hl1:c1.length=cap*2:=by rw [h1];simp only [List.length_append,htl,hdl,List.length_drop];omega
 refine⟨hl1,fun c2 h2=>?_⟩
 have e1:c1.take (i*2)=xs.take (i*2):=by
  rw [h1,List.append_assoc,List.take_append,htl,List.take_take,show i*2-(i+1)*2=0 by omega,List.take_zero,List.append_nil,<- ht,List.take_take];congr 1;omega
 have e2:c1.drop (i*2+[x0,x1].length)=xs.drop (i*2)++cur.drop ((i+1)*2+(xs.drop (i*2)).length):=by
  rw [show i*2+[x0,x1].length=(i+1)*2 by simp;omega,h1,List.append_assoc,List.drop_append,htl,Nat.sub_self,List.drop_zero,List.drop_of_length_le (Nat.le_of_eq htl),List.nil_append]
 have hxt:(xs.take (i*2)).length=i*2:=by rw [List.length_take,hxl];omega
 rw [e1,e2] at h2;have hl3:(xs.take (i*2)++[x0,x1]++xs.drop (i*2)).length=(n+1)*2:=by simp only [List.length_append,hxt,hdl,List.length_cons,List.length_nil];omega
 have e3:c2=(xs.take (i*2)++[x0,x1]++xs.drop (i*2))++cur.drop ((i+1)*2+(xs.drop (i*2)).length):=by rw [h2];simp only [List.append_assoc]
 refine⟨?_,?_⟩
 ·rw [e3,List.length_append,hl3,List.length_drop,hcl,hdl];omega
 ·rw [e3,<- hl3,List.take_left]
theorem ins_grow{xs z:List Value}{i n cap:Nat}(x0 x1:Value)(hxl:xs.length=n*2)(hi:i<n)(hr:n+1<=cap)(hz:(xs.take (i*2)++z).length=cap*2):
 ∀ c1,c1=(xs.take (i*2)++z).take (i*2)++[x0,x1]++(xs.take (i*2)++z).drop (i*2+[x0,x1].length)->c1.length=cap*2∧∀ c2,c2=c1.take ((i+1)*2)++xs.drop (i*2)++c1.drop ((i+1)*2+(xs.drop (i*2)).length)->c2.length=cap*2∧c2.take ((n+1)*2)=xs.take (i*2)++[x0,x1]++xs.drop (i*2):=by
 intro c1 h1;have hxt:(xs.take (i*2)).length=i*2:=by rw [List.length_take,hxl];omega
 have hdl:(xs.drop (i*2)).length=(n-i)*2:=by rw [List.length_drop,hxl];omega
 have e1:(xs.take (i*2)++z).take (i*2)=xs.take (i*2):=by
  have:=List.take_left (l₁:=xs.take (i*2)) (l₂:=z);rw [hxt] at this;exact this
 rw [e1] at h1
 have hl1:c1.length=cap*2:=by
  rw [h1];simp only [List.length_append,hxt,List.length_drop,List.length_cons,List.length_nil] at hz ⊢;omega
 refine⟨hl1,fun c2 h2=>?_⟩;have hl2:(xs.take (i*2)++[x0,x1]).length=(i+1)*2:=by simp only [List.length_append,hxt,List.length_cons,List.length_nil];omega
 have e2:c1.take ((i+1)*2)=xs.take (i*2)++[x0,x1]:=by rw [h1,<- hl2,List.take_left]
 rw [e2] at h2;have hl3:(xs.take (i*2)++[x0,x1]++xs.drop (i*2)).length=(n+1)*2:=by rw [List.length_append,hl2,hdl];omega
 refine⟨?_,?_⟩
 ·rw [h2,List.length_append,hl3,List.length_drop,hl1,hdl];omega
 ·rw [h2,<- hl3,List.take_left]
end Go.Proofs.YtmdinnjimioffaaGreat
namespace Go.Proofs.YtmdinnjimioffaaGreat
open Go.RowKit
def cutCode(t:Int)(d:ByteArray):Int:=
 if t<0∨65535<t then 6 else if 65535<d.size then 7 else if(Dt.spans (Dt.implP t) 0 d).isSome then 0 else 7
def cutS(t:Int)(d:ByteArray):Option (List (Nat×Nat)):=if t<0∨65535<t then none else if 65535<d.size then none else Dt.spans (Dt.implP t) 0 d
def spanCells(sp:List (Nat×Nat)):List Value:=sp.flatMap fun s=>[.int .i64 (s.1:Int),.int .i64 (s.2:Int)]
theorem spanCells_append(a b:List (Nat×Nat)):spanCells (a++b)=spanCells a++spanCells b:=by simp [spanCells]
def CAt(fs:List Dt.Pc)(d:ByteArray)(sp:List (Nat×Nat))(r:List Dt.Pc)(a:Nat):Prop:=
 Dt.spans fs 0 d=(Dt.spans r a (d.extract a d.size)).map (fun t=>sp++t)
theorem cat_start(fs:List Dt.Pc)(d:ByteArray):CAt fs d [] fs 0:=by simp [CAt]
theorem cat_end{fs:List Dt.Pc}{d:ByteArray}{sp:List (Nat×Nat)}{a:Nat}(h:CAt fs d sp [] a)(h0:d.size<=a):Dt.spans fs 0 d=some sp:=by
 rw [h,Dt.spans,if_pos (by simp;omega)];simp
theorem cat_left{fs:List Dt.Pc}{d:ByteArray}{sp:List (Nat×Nat)}{a:Nat}(h:CAt fs d sp [] a)(h0:a<d.size):Dt.spans fs 0 d=none:=by
 rw [h,Dt.spans,if_neg (by simp;omega)];rfl
theorem cat_none{fs r:List Dt.Pc}{p:Dt.Pc}{d:ByteArray}{sp:List (Nat×Nat)}{a:Nat}(h:CAt fs d sp (p::r) a)(h0:Dt.sz p (d.extract a d.size)=none):Dt.spans fs 0 d=none:=by
 rw [h,Dt.spans,h0];rfl
theorem cat_step{fs r:List Dt.Pc}{p:Dt.Pc}{d:ByteArray}{sp:List (Nat×Nat)}{a n:Nat}(h:CAt fs d sp (p::r) a)(ha:a<=d.size)(h0:Dt.sz p (d.extract a d.size)=some n):
 CAt fs d (sp++if p.isN then [(a,a+n)] else []) r (a+n)∧a+n<=d.size:=by
 have hn:=Dt.sz_le h0;have hz:(d.extract a d.size).size=d.size-a:=by simp
 refine⟨?_,by omega⟩;rw [CAt,h,Dt.spans,h0,Option.map_map,Dt.ext_ext (by omega) (Nat.le_refl _)];congr 1;funext t
 cases p.isN<;>simp
theorem code_type{t:Int}{d:ByteArray}(h:t<0∨65535<t):cutCode t d=6∧cutS t d=none:=by
 rw [cutCode,cutS,if_pos h,if_pos h];exact⟨rfl,rfl⟩
theorem code_long{t:Int}{d:ByteArray}(h:¬(t<0∨65535<t))(h1:65535<d.size):cutCode t d=7∧cutS t d=none:=by
 rw [cutCode,cutS,if_neg h,if_neg h,if_pos h1,if_pos h1];exact⟨rfl,rfl⟩
theorem code_none{t:Int}{d:ByteArray}(h:¬(t<0∨65535<t))(h1:¬65535<d.size)(h2:Dt.spans (Dt.implP t) 0 d=none):cutCode t d=7∧cutS t d=none:=by
 rw [cutCode,cutS,if_neg h,if_neg h,if_neg h1,if_neg h1,h2];exact⟨rfl,rfl⟩
theorem code_some{t:Int}{d:ByteArray}{sp:List (Nat×Nat)}(h:¬(t<0∨65535<t))(h1:¬65535<d.size)(h2:Dt.spans (Dt.implP t) 0 d=some sp):cutCode t d=0∧cutS t d=some sp:=by
 rw [cutCode,cutS,if_neg h,if_neg h,if_neg h1,if_neg h1,h2];exact⟨rfl,rfl⟩
theorem implP_len(t:Int):(Dt.implP t).length<=5:=by
 unfold Dt.implP
 repeat' split
 all_goals simp
end Go.Proofs.YtmdinnjimioffaaGreat
namespace Go.Proofs.YtmdinnjimioffaaGreat
open Go.RowKit
theorem cmpS_left{a b:ByteArray}(h:Nm.split a=none):Nm.cmpS a b=0:=by simp [Nm.cmpS,h]
theorem cmpS_right{a b:ByteArray}(h:Nm.split b=none):Nm.cmpS a b=0:=by
 cases ha:Nm.split a<;>simp [Nm.cmpS,h,ha]
theorem cmpS_some{a b:ByteArray}{xs ys:List ByteArray}(ha:Nm.split a=some xs)(hb:Nm.split b=some ys):Nm.cmpS a b=Nm.cmpLs xs ys:=by simp [Nm.cmpS,ha,hb]
end Go.Proofs.YtmdinnjimioffaaGreat
namespace Go.Proofs.YtmdinnjimioffaaGreat
open Go.RowKit Go.Shelf
set_option linter.unusedVariables false
attribute [local go_sem] Oper.semAt_some
def RwsS{α:Type}(kf vf:α->ByteArray)(n₀:Nat)(W:World)(sv:Value)(zs:List α):Prop:=
 (sv=.slice none 0 0∧zs=[])∨∃ b off cap,sv=.slice (some ⟨b,off,none⟩) zs.length cap∧b<n₀∧(zs.length<=cap∧cap<=maxLen)∧
  ∀ (i:Nat) (x:α),zs[i]? =some x->W.cell? ⟨b,off+i*2,none⟩=some (Value.string (kf x))∧W.cell? ⟨b,off+i*2+1,none⟩=some (Value.string (vf x))
theorem RwsS.below{α:Type}{kf vf:α->ByteArray}{n₀:Nat}{W W':World}{sv:Value}{zs:List α}(h:RwsS kf vf n₀ W sv zs)(hB:Below n₀ W W'):RwsS kf vf n₀ W' sv zs:=by
 rcases h with h|⟨b,off,cap,e,hb,hcp,hc⟩
 ·exact .inl h
 ·exact .inr ⟨b,off,cap,e,hb,hcp,fun i x hx=>⟨(hB.cell (p:=⟨b,off+i*2,none⟩) hb).trans (hc i x hx).1,(hB.cell (p:=⟨b,off+i*2+1,none⟩) hb).trans (hc i x hx).2⟩⟩
theorem rwsS_own{α:Type}(kf vf:α->ByteArray){w:World}{B e:Nat}{v:Value}(zs:List α)(h:w.ownsRow B e 2 v zs.length (rowCs (zs.map fun x=>((Value.string (kf x)),(Value.string (vf x)))))):RwsS kf vf w.heap.size w v zs:=by
 have h':=h
 rcases h.2 with⟨rfl,h0⟩|⟨q,cap,cur,rfl,hb,hh,hc1,hc2,hcs,ht⟩
 ·exact .inl ⟨rfl,List.length_eq_zero_iff.1 h0⟩
 ·refine .inr ⟨q,0,cap,rfl,(Array.getElem?_eq_some_iff.1 hh).1,⟨hc1,hc2⟩,fun i x hx=>?_⟩;have hi:=(List.getElem?_eq_some_iff.1 hx).1;have hm:(zs.map fun x=>((Value.string (kf x)),(Value.string (vf x))))[i]? =some ((Value.string (kf x)),(Value.string (vf x))):=by simp [hx]
  have a0:=rowCs_at _ i 0 _ hm (by decide);have a1:=rowCs_at _ i 1 _ hm (by decide);have c0:=h'.cellAt (i*2) (by omega);have c1:=h'.cellAt (i*2+1) (by omega);exact⟨by rw [Nat.zero_add,c0];exact a0,by rw [Nat.zero_add,c1];exact a1⟩
set_option maxRecDepth 100000 in
set_option maxHeartbeats 2000000 in
theorem all1nS_in{α:Type}(F:Fence)(n:Nat)(h7:F.fn 146)(hro:F.round=none)(l tb g:Nat)(J:List α->World->Prop)(W:World)
 (kb:W.cell? ⟨tb,0,none⟩=some (.pointer (some ⟨g,0,none⟩))) (kg:W.cell? ⟨g,1,none⟩=some (.slice none 0 0)) (h0:J [] W):
 CallsIn F n Tryz.prog 146 #[.func (.yield l) #[] #[],.pointer (some ⟨tb,0,none⟩)] W fun e W'=>(∃ v,e=.returned v)∧J [] W':=by
 refine callsIn_of_wp Tryz.func146 rfl h7 ?_ hro;simp only [Tryz.ntmps146,List.size_toArray,List.length_cons,List.length_nil,Nat.reduceAdd,Nat.reduceSub,Array.replicate_succ,Array.replicate_zero,List.push_toArray,List.append_toArray,List.nil_append,List.cons_append]
 gi_wp2
 gi_loopw [10] (fun i wr=>i=.int .i64 0∧J [] wr) (fun _ _=>0)
 case atStart=>exact⟨rfl,h0⟩
 case round=>
  obtain⟨rfl,hJs⟩:=hrel
  gi_wp2
  go_end0
  exact⟨⟨_,rfl⟩,hJs⟩
set_option maxRecDepth 100000 in
set_option maxHeartbeats 2000000 in
theorem allS_in(F:Fence)(n:Nat)(h6:F.fn 128)(hro:F.round=none)(p:Option Addr)(w:World):
 CallsIn F n Tryz.prog 128 #[.pointer p] w fun e w'=>e=.returned (.func (.func 146) #[] #[.pointer (some ⟨w.heap.size,0,none⟩)])∧w'=w.alloc (.cells #[.pointer p] 132):=by
 refine callsIn_of_wp Tryz.func128 rfl h6 ?_ hro;simp only [Tryz.ntmps128,List.size_toArray,List.length_cons,List.length_nil,Nat.reduceAdd,Nat.reduceSub,Array.replicate_succ,Array.replicate_zero,List.push_toArray,List.append_toArray,List.nil_append,List.cons_append]
 gi_wp2
 go_ret;exact⟨rfl,rfl⟩
theorem allStopsS{α:Type}(kf vf:α->ByteArray)(F:Fence)(n:Nat)(h7:F.fn 146)(hro:F.round=none)(hn:1<=n)(tb g n₀:Nat)(sv:Value)(zs:List α)(hl:zs.length<=1000000)(w:World)(htb:tb<w.heap.size)(hg:g<n₀)(hn₀:n₀<=w.heap.size)
 (kb:w.cell? ⟨tb,0,none⟩=some (.pointer (some ⟨g,0,none⟩))) (kg:w.cell? ⟨g,1,none⟩=some sv) (hR:RwsS kf vf n₀ w sv zs):
 SeqStopsK F n Tryz.prog 146 #[.pointer (some ⟨tb,0,none⟩)] (fun x:α=>#[(Value.string (kf x)),(Value.string (vf x))]) (Below n₀) (fun ys=>ys=zs) (fun pre=>pre<+:zs) zs.length w:=fun l J Jx W hW hJ _ hY h0=>by
 have kb':=(hW.cell (p:=⟨tb,0,none⟩) htb).trans kb;have kg':=(hW.cell (p:=⟨g,1,none⟩) (Nat.lt_of_lt_of_le hg hn₀)).trans kg
 rcases hR.below (hW.mono hn₀) with⟨rfl,rfl⟩|⟨b,off,cap,rfl,hb,hcp,hcs⟩
 ·exact(all1nS_in F n h7 hro l tb g J W kb' kg' h0).mono fun e W' ⟨he,hj⟩=>⟨he,.inl ⟨_,rfl,hj⟩⟩
 ·exact all1S_in kf vf F n h7 hro hn l tb g n₀ b off cap (.pointer none) zs hl hcp hb J Jx (fun s W1 W2 hs hgr=>hJ s W1 W2 none hs hgr (fun r e=>by cases e)) hY W kb' kg' hcs (Nat.le_trans hn₀ hW.size) h0
end Go.Proofs.YtmdinnjimioffaaGreat
namespace Go.Proofs.YtmdinnjimioffaaGreat
open Go.RowKit Go.Shelf
set_option linter.unusedVariables false
attribute [local go_sem] Oper.semAt_some
def RwsL{α:Type}(ka:α->Option Addr)(kn kc:α->Nat)(vf:α->Addr)(n₀:Nat)(W:World)(sv:Value)(zs:List α):Prop:=
 (sv=.slice none 0 0∧zs=[])∨∃ b off cap,sv=.slice (some ⟨b,off,none⟩) zs.length cap∧b<n₀∧(zs.length<=cap∧cap<=maxLen)∧
  ∀ (i:Nat) (x:α),zs[i]? =some x->W.cell? ⟨b,off+i*2,none⟩=some (Value.slice (ka x) (kn x) (kc x))∧W.cell? ⟨b,off+i*2+1,none⟩=some (Value.pointer (some (vf x)))
theorem RwsL.below{α:Type}{ka:α->Option Addr}{kn kc:α->Nat}{vf:α->Addr}{n₀:Nat}{W W':World}{sv:Value}{zs:List α}(h:RwsL ka kn kc vf n₀ W sv zs)(hB:Below n₀ W W'):RwsL ka kn kc vf n₀ W' sv zs:=by
 rcases h with h|⟨b,off,cap,e,hb,hcp,hc⟩
 ·exact .inl h
 ·exact .inr ⟨b,off,cap,e,hb,hcp,fun i x hx=>⟨(hB.cell (p:=⟨b,off+i*2,none⟩) hb).trans (hc i x hx).1,(hB.cell (p:=⟨b,off+i*2+1,none⟩) hb).trans (hc i x hx).2⟩⟩
theorem rwsL_own{α:Type}(ka:α->Option Addr)(kn kc:α->Nat)(vf:α->Addr){w:World}{B e:Nat}{v:Value}(zs:List α)(h:w.ownsRow B e 2 v zs.length (rowCs (zs.map fun x=>((Value.slice (ka x) (kn x) (kc x)),(Value.pointer (some (vf x))))))):RwsL ka kn kc vf w.heap.size w v zs:=by
 have h':=h
 rcases h.2 with⟨rfl,h0⟩|⟨q,cap,cur,rfl,hb,hh,hc1,hc2,hcs,ht⟩
 ·exact .inl ⟨rfl,List.length_eq_zero_iff.1 h0⟩
 ·refine .inr ⟨q,0,cap,rfl,(Array.getElem?_eq_some_iff.1 hh).1,⟨hc1,hc2⟩,fun i x hx=>?_⟩;have hi:=(List.getElem?_eq_some_iff.1 hx).1;have hm:(zs.map fun x=>((Value.slice (ka x) (kn x) (kc x)),(Value.pointer (some (vf x)))))[i]? =some ((Value.slice (ka x) (kn x) (kc x)),(Value.pointer (some (vf x)))):=by simp [hx]
  have a0:=rowCs_at _ i 0 _ hm (by decide);have a1:=rowCs_at _ i 1 _ hm (by decide);have c0:=h'.cellAt (i*2) (by omega);have c1:=h'.cellAt (i*2+1) (by omega);exact⟨by rw [Nat.zero_add,c0];exact a0,by rw [Nat.zero_add,c1];exact a1⟩
set_option maxRecDepth 100000 in
set_option maxHeartbeats 2000000 in
theorem all1nL_in{α:Type}(F:Fence)(n:Nat)(h7:F.fn 99)(hro:F.round=none)(l tb g:Nat)(J:List α->World->Prop)(W:World)
 (kb:W.cell? ⟨tb,0,none⟩=some (.pointer (some ⟨g,0,none⟩))) (kg:W.cell? ⟨g,1,none⟩=some (.slice none 0 0)) (h0:J [] W):
 CallsIn F n Tryz.prog 99 #[.func (.yield l) #[] #[],.pointer (some ⟨tb,0,none⟩)] W fun e W'=>(∃ v,e=.returned v)∧J [] W':=by
 refine callsIn_of_wp Tryz.func99 rfl h7 ?_ hro;simp only [Tryz.ntmps99,List.size_toArray,List.length_cons,List.length_nil,Nat.reduceAdd,Nat.reduceSub,Array.replicate_succ,Array.replicate_zero,List.push_toArray,List.append_toArray,List.nil_append,List.cons_append]
 gi_wp2
 gi_loopw [10] (fun i wr=>i=.int .i64 0∧J [] wr) (fun _ _=>0)
 case atStart=>exact⟨rfl,h0⟩
 case round=>
  obtain⟨rfl,hJs⟩:=hrel
  gi_wp2
  go_end0
  exact⟨⟨_,rfl⟩,hJs⟩
set_option maxRecDepth 100000 in
set_option maxHeartbeats 2000000 in
theorem allL_in(F:Fence)(n:Nat)(h6:F.fn 65)(hro:F.round=none)(p:Option Addr)(w:World):
 CallsIn F n Tryz.prog 65 #[.pointer p] w fun e w'=>e=.returned (.func (.func 99) #[] #[.pointer (some ⟨w.heap.size,0,none⟩)])∧w'=w.alloc (.cells #[.pointer p] 68):=by
 refine callsIn_of_wp Tryz.func65 rfl h6 ?_ hro;simp only [Tryz.ntmps65,List.size_toArray,List.length_cons,List.length_nil,Nat.reduceAdd,Nat.reduceSub,Array.replicate_succ,Array.replicate_zero,List.push_toArray,List.append_toArray,List.nil_append,List.cons_append]
 gi_wp2
 go_ret;exact⟨rfl,rfl⟩
theorem allStopsL{α:Type}(ka:α->Option Addr)(kn kc:α->Nat)(vf:α->Addr)(F:Fence)(n:Nat)(h7:F.fn 99)(hro:F.round=none)(hn:1<=n)(tb g n₀:Nat)(sv:Value)(zs:List α)(hl:zs.length<=1000000)(w:World)(htb:tb<w.heap.size)(hg:g<n₀)(hn₀:n₀<=w.heap.size)
 (kb:w.cell? ⟨tb,0,none⟩=some (.pointer (some ⟨g,0,none⟩))) (kg:w.cell? ⟨g,1,none⟩=some sv) (hR:RwsL ka kn kc vf n₀ w sv zs):
 SeqStopsK F n Tryz.prog 99 #[.pointer (some ⟨tb,0,none⟩)] (fun x:α=>#[(Value.slice (ka x) (kn x) (kc x)),(Value.pointer (some (vf x)))]) (Below n₀) (fun ys=>ys=zs) (fun pre=>pre<+:zs) zs.length w:=fun l J Jx W hW hJ _ hY h0=>by
 have kb':=(hW.cell (p:=⟨tb,0,none⟩) htb).trans kb;have kg':=(hW.cell (p:=⟨g,1,none⟩) (Nat.lt_of_lt_of_le hg hn₀)).trans kg
 rcases hR.below (hW.mono hn₀) with⟨rfl,rfl⟩|⟨b,off,cap,rfl,hb,hcp,hcs⟩
 ·exact(all1nL_in F n h7 hro l tb g J W kb' kg' h0).mono fun e W' ⟨he,hj⟩=>⟨he,.inl ⟨_,rfl,hj⟩⟩
 ·exact all1L_in ka kn kc vf F n h7 hro hn l tb g n₀ b off cap (.pointer none) zs hl hcp hb J Jx (fun s W1 W2 hs hgr=>hJ s W1 W2 none hs hgr (fun r e=>by cases e)) hY W kb' kg' hcs (Nat.le_trans hn₀ hW.size) h0
end Go.Proofs.YtmdinnjimioffaaGreat
namespace Go.Proofs.YtmdinnjimioffaaGreat
open Go.RowKit
set_option linter.unusedVariables false
end Go.Proofs.YtmdinnjimioffaaGreat
