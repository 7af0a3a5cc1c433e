import Derived.Test.YtmdinnjimioffaaGreatJMath
import Derived.Test.YtmdinnjimioffaaGreatRows
import Derived.WalkSpells
import Derived.WalkLawsBesides
namespace Go.Proofs.YtmdinnjimioffaaGreat.Nm
open Go.RowKit
def low(c:UInt8):UInt8:=if 65<=c.toNat∧c.toNat<=90 then UInt8.ofNat (c.toNat+32) else c
def smallL(l:List UInt8):List UInt8:=l.map low
def small(s:ByteArray):ByteArray:=⟨(smallL s.data.toList).toArray⟩
theorem low_up{c:UInt8}(h:65<=c.toNat∧c.toNat<=90):((low c).toNat:Int)=(c.toNat:Int)+32:=by
 rw [low,if_pos h];simp;omega
theorem low_id{c:UInt8}(h:¬(65<=c.toNat∧c.toNat<=90)):low c=c:=by rw [low,if_neg h]
theorem small_data(s:ByteArray):(small s).data.toList=smallL s.data.toList:=by simp [small]
theorem small_size(s:ByteArray):(small s).size=s.size:=by
 have:(small s).data.toList.length=s.data.toList.length:=by rw [small_data];simp [smallL]
 simpa using this
theorem ba_ext{a b:ByteArray}(h:a.data.toList=b.data.toList):a=b:=by
 apply ByteArray.ext;exact Array.toList_inj.1 h
theorem smallL_step{l:List UInt8}{k:Nat}{c:UInt8}(h:l[k]? =some c):smallL (l.take (k+1))=smallL (l.take k)++[low c]:=by
 rw [take_step h];simp [smallL]
theorem get_data{x:ByteArray}{j:Nat}(h:j<x.size):x.data.toList[j]? =some x[j]:=by
 rw [List.getElem?_eq_getElem (by simpa using h)];rfl
theorem cut_data(r:ByteArray)(h:0<r.size)(n:Nat):
 r.data.toList=r[0]::((r.extract 1 (n+1)).data.toList++(r.extract (n+1) r.size).data.toList):=by
 have e0:r.data.toList=r[0]::r.data.toList.drop 1:=by
  have hl:0<r.data.toList.length:=by simpa using h
  have:=List.drop_eq_getElem_cons (i:=0) hl;rw [List.drop_zero] at this;exact this
 rw [e0];congr 1;have e1:(r.extract 1 (n+1)).data.toList=(r.data.toList.drop 1).take n:=by simp
 have e2:(r.extract (n+1) r.size).data.toList=(r.data.toList.drop 1).drop n:=by
  simp only [ByteArray.data_extract,Array.toList_extract,List.drop_drop];rw [List.extract_eq_take_drop,List.take_of_length_le (by simp)];congr 1;omega
 rw [e1,e2,List.take_append_drop]
theorem splitF_join:∀ (f:Nat) (r:ByteArray) (ls:List ByteArray),splitF f r=some ls->joinL ls=r.data.toList∧∀ x∈ls,1<=x.size∧x.size<=63:=by
 intro f
 induction f with
 |zero=>intro r ls h;simp [splitF] at h
 |succ f ih=>
  intro r ls h
  by_cases hp:0<r.size
  ·by_cases h0:r[0].toNat=0
   ·by_cases h1:r.size=1
    ·rw [splitF_end f r hp h0 h1] at h;simp at h;subst h;refine⟨?_,by simp⟩;have e:=cut_data r hp 0;have z:r[0]=0:=UInt8.toNat_inj.1 (by simpa using h0);rw [e,z];have e1:(r.extract 1 (0+1)).data.toList=[]:=by simp
     have e2:(r.extract (0+1) r.size).data.toList=[]:=by simp [h1]
     rw [e1,e2];rfl
    ·rw [splitF_zero f r hp h0 h1] at h;simp at h
   ·by_cases h1:63<r[0].toNat∨r.size<r[0].toNat+1
    ·rw [splitF_bad f r hp h0 h1] at h;simp at h
    ·rw [splitF_step f r hp h0 (by omega) (by omega)] at h
     cases e:splitF f (r.extract (r[0].toNat+1) r.size) with
     |none=>rw [e] at h;simp at h
     |some t=>
      rw [e] at h;simp at h;obtain⟨i1,i2⟩:=ih _ _ e;have hsz:(r.extract 1 (r[0].toNat+1)).size=r[0].toNat:=by simp;omega
      rw [<- h];constructor
      ·rw [cut_data r hp r[0].toNat,<- i1];simp only [joinL,preL,hsz];simp
      ·intro x hx
       rcases List.mem_cons.1 hx with rfl|hx
       ·rw [hsz];omega
       ·exact i2 x hx
  ·rw [splitF_empty _ r (by omega)] at h;simp at h
theorem split_join{s:ByteArray}{ls:List ByteArray}(h:split s=some ls):joinL ls=s.data.toList∧∀ x∈ls,1<=x.size∧x.size<=63:=by
 by_cases hl:s.size<=255
 ·rw [split_short s hl] at h;exact splitF_join _ _ _ h
 ·rw [split_long s (by omega)] at h;simp at h
theorem low_len{n:Nat}(h:n<=63):low (UInt8.ofNat n)=UInt8.ofNat n:=by
 apply low_id
 simp;omega
theorem preL_small(ls:List ByteArray)(h:∀ x∈ls,x.size<=63):preL (ls.map small)=smallL (preL ls):=by
 induction ls with
 |nil=>rfl
 |cons x r ih=>
  have hx:=h x (List.mem_cons_self);have:=ih (fun y hy=>h y (List.mem_cons_of_mem _ hy));simp only [List.map_cons,preL,small_size,small_data,this];simp [smallL,low_len hx]
theorem joinL_small{s:ByteArray}{ls:List ByteArray}(h:split s=some ls):(⟨(joinL (ls.map small)).toArray⟩:ByteArray)=small s:=by
 obtain⟨h1,h2⟩:=split_join h;apply ba_ext;rw [small_data,<- h1];simp only [joinL];rw [preL_small ls (fun x hx=>(h2 x hx).2)];simp [smallL,low]
theorem wsum_small(ls:List ByteArray):wsum (ls.map small)=wsum ls:=by
 induction ls with
 |nil=>rfl
 |cons x r ih=>simp only [List.map_cons,wsum,small_size,ih]
def foldS(s:ByteArray):ByteArray:=if(split s).isSome then small s else ByteArray.empty
theorem foldS_none{s:ByteArray}(h:split s=none):foldS s=ByteArray.empty:=by simp [foldS,h]
theorem foldS_some{s:ByteArray}{ls:List ByteArray}(h:split s=some ls):foldS s=small s:=by simp [foldS,h]
end Go.Proofs.YtmdinnjimioffaaGreat.Nm
namespace Go.Proofs.YtmdinnjimioffaaGreat
open Go.RowKit
set_option maxRecDepth 100000 in
set_option maxHeartbeats 400000 in
theorem foldByte_any(c:UInt8)(w:World):
 Calls Tryz.prog 133 #[.int .u8 c.toNat] w fun e w'=>e=.returned (.int .u8 (Nm.low c).toNat)∧w'=w:=by
 have hcl:(c.toNat:Int)<256:=by have:=c.toNat_lt;omega
 by_cases hup:65<=c.toNat∧c.toNat<=90
 ·have HL:=Nm.hide (Nm.low_up hup);have d1:decide ((65:Int)<=(c.toNat:Int))=true:=by simp;omega
  have d2:decide ((c.toNat:Int)<=90)=true:=by simp;omega
  have hb1:(c.toNat:Int)<=90:=by omega
  clear hup;go_enter Tryz.func133,Tryz.ntmps133;go_wp2;go_ret;rw [HL.out];exact⟨rfl,rfl⟩
 ·have HL:=Nm.hide (Nm.low_id hup)
  by_cases hlo:65<=c.toNat
  ·have d1:decide ((65:Int)<=(c.toNat:Int))=true:=by simp;omega
   have d2:decide ((c.toNat:Int)<=90)=false:=by simp;omega
   clear hup;go_enter Tryz.func133,Tryz.ntmps133;go_wp2;go_ret;rw [HL.out];exact⟨rfl,rfl⟩
  ·have d1:decide ((65:Int)<=(c.toNat:Int))=false:=by simp;omega
   clear hup;go_enter Tryz.func133,Tryz.ntmps133;go_wp2;go_ret;rw [HL.out];exact⟨rfl,rfl⟩
end Go.Proofs.YtmdinnjimioffaaGreat
