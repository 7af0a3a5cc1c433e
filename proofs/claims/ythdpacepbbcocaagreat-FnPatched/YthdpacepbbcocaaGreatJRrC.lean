import Derived.Test.YthdpacepbbcocaaGreatJAls
import Derived.BigQuiet
set_option linter.unusedVariables false
set_option maxRecDepth 100000
set_option maxHeartbeats 800000
namespace Go.Proofs.YthdpacepbbcocaaGreat
open Go.RowKit
theorem Tryz.GM:(Tryz.prog.info? 29).map (fun i=>(i.zero,i.size,i.bytes))=some (some (.agg #[.string ByteArray.empty,.int .i64 0,.int .i64 0,.int .i64 0,.string ByteArray.empty]),5,56):=by kernel_rfl
structure DI (p:Nat) (w w':World):Prop where
 os:w'.os=w.os
 tape:w'.tape=w.tape
 output:w'.output=w.output
 size:w.heap.size<=w'.heap.size
 block:∀ k,k<w.heap.size->k≠p->w'.heap[k]? =w.heap[k]?
theorem DI.refl(p:Nat)(w:World):DI p w w:=⟨rfl,rfl,rfl,aN _,fun _ _ _=>rfl⟩
theorem DI.drew{p:Nat}{w w':World}(h:DI p w w'):DI p w w'.drew:=⟨h.os,h.tape,h.output,h.size,h.block⟩
theorem DI.set{p i:Nat}{w w':World}{v:Value}(h:DI p w w'):DI p w (w'.setCell ⟨p,i,none⟩ v):=by
 have h1:=(aK 0 w').setCell (p:=⟨p,i,none⟩) (dO _) v;refine⟨h1.os.trans h.os,h1.tape.trans h.tape,h1.output.trans h.output,iL h.size h1.size,fun k hk hp=>?_⟩;rw [Below.heap_setCell _ _ _ _ hp];exact h.block k hk hp
def IL(l:List UInt8):Nat:=l.foldl (fun n c=>n*256+c.toNat) 0
theorem Cs(l:List UInt8)(c:UInt8):IL (l++[c])=IL l*256+c.toNat:=by simp [IL]
theorem aJe:∀ (l:List UInt8) (a:Nat),l.foldl (fun n c=>n*256+c.toNat) a<(a+1)*256 ^ l.length:=by
 intro l
 induction l with
 |nil=>intro a;simp
 |cons c l ih=>
  intro a;rw [List.foldl_cons,List.length_cons,Nat.pow_succ];refine sP (ih _) ?_;have hc:=c.toNat_lt;have h1:a*256+c.toNat+1<=(a+1)*256:=by omega
  calc (a*256+c.toNat+1)*256 ^ l.length<=((a+1)*256)*256 ^ l.length:=Nat.mul_le_mul_right _ h1
   _=(a+1)*(256 ^ l.length*256):=by rw [Nat.mul_assoc,Nat.mul_comm 256]
theorem aJf(l:List UInt8):IL l<256 ^ l.length:=by
 have:=aJe l 0;rw [Nat.zero_add,Nat.one_mul] at this;exact this
theorem VP{l:List UInt8}(h:l.length<=6):IL l<281474976710656:=by
 have h1:=aJf l;have h2:256 ^ l.length<=256 ^ 6:=Nat.pow_le_pow_right (by decide) h;have h3:(256:Nat) ^ 6=281474976710656:=by decide
 omega
theorem Uc(s:ByteArray)(w:World)(hs:s.size<=6):
 Calls Tryz.prog 75 #[.string s] w fun e w'=>e=.returned (.int .i64 (IL s.data.toList))∧w'=w:=by
 go_enter Tryz.func75,Tryz.ntmps75;go_wp2
 go_loop [3,4] (fun u v=>∃ k:Nat,k<=s.size∧v=.int .i64 k∧u=.int .i64 (IL (s.data.toList.take k))) (fun _ v=>s.size-(intOf v).toNat)
 case atStart=>exact⟨0,dO _,rfl,rfl⟩
 obtain⟨k,hk,rfl,rfl⟩:=hrel
 by_cases bV:k<s.size
 ·have hd:=Nm.iZ bV;have e1:s.data.toList.take (k+1)=s.data.toList.take k++[s[k]]:=Nm.mH hd;have hb:=VP (l:=s.data.toList.take k) (by simp;omega);have e2:=Cs (s.data.toList.take k) s[k];rw [<- e1] at e2;have hc:(s[k].toNat:Int)<256:=by have:=s[k].toNat_lt;omega
  have KD:(k:Int)<(s.size:Int):=by omega
  generalize IL (s.data.toList.take k)=m at*;clear e1 hd;go_wp2
  go_round
  case rel=>exact⟨k+1,by omega,by go_num,by rw [e2];go_num⟩
  simp [intOf];omega
 have DJ:k=s.size:=by omega
 subst DJ;have et:s.data.toList.take s.size=s.data.toList:=List.take_of_length_le (by simp);rw [et];go_wp2;go_ret;exact⟨rfl,rfl⟩
def aOt(a b c d:UInt8):Nat:=((a.toNat*256+b.toNat)*256+c.toNat)*256+d.toNat
theorem aFf(m:Nat)(c:UInt8)(h:m<281474976710656):bits .or .i64 ((m:Int)*256) (c.toNat:Int)=((m*256+c.toNat:Nat):Int):=by
 have hc:=c.toNat_lt;have e:(m:Int)*256=((2 ^ 8*m:Nat):Int):=by omega
 rw [e,aI5 8 m _ (by omega) (by omega)];congr 1;omega
theorem Mc(s:ByteArray)(w:World)(hs:s.size<=6):
 Calls Tryz.prog 120 #[.string s] w fun e w'=>e=.returned (.int .i64 (IL s.data.toList))∧w'=w:=by
 go_enter Tryz.func120,Tryz.ntmps120;go_wp2
 go_loop [3,7] (fun u v=>∃ k:Nat,k<=s.size∧v=.int .i64 k∧u=.int .i64 (IL (s.data.toList.take k))) (fun _ v=>s.size-(intOf v).toNat)
 case atStart=>exact⟨0,dO _,rfl,rfl⟩
 obtain⟨k,hk,rfl,rfl⟩:=hrel
 by_cases bV:k<s.size
 ·have hd:=Nm.iZ bV;have e1:s.data.toList.take (k+1)=s.data.toList.take k++[s[k]]:=Nm.mH hd;have hb:=VP (l:=s.data.toList.take k) (by simp;omega);have e2:=Cs (s.data.toList.take k) s[k];rw [<- e1] at e2;have hc:(s[k].toNat:Int)<256:=by have:=s[k].toNat_lt;omega
  have KD:(k:Int)<(s.size:Int):=by omega
  have HB:=Nm.aF (aFf (IL (s.data.toList.take k)) s[k] hb);generalize IL (s.data.toList.take k)=m at*;clear e1 hd;go_wp2
  go_round
  case rel=>exact⟨k+1,by omega,by go_num,by rw [e2,<- HB.out]⟩
  simp [intOf];omega
 have DJ:k=s.size:=by omega
 subst DJ;have et:s.data.toList.take s.size=s.data.toList:=List.take_of_length_le (by simp);rw [et];go_wp2;go_ret;exact⟨rfl,rfl⟩
theorem Fj(c:UInt8)(w:World):
 Calls Tryz.prog 128 #[.int .u8 c.toNat] w fun e w'=>e=.returned (.bool (Dt.jG c))∧w'=w:=by
 have key:∀ b,Dt.jG c=b->Hid (Dt.jG c=b):=fun _ h=>h
 by_cases h1:48<=c.toNat
 ·by_cases h2:c.toNat<=57
  ·have HA:=key true (by simp [Dt.jG,h1,h2]);have d1:(48:Int)<=(c.toNat:Int):=by omega
   have d2:(c.toNat:Int)<=57:=by omega
   go_enter Tryz.func128,Tryz.ntmps128;go_wp2;go_ret;rw [HA.out];exact⟨rfl,rfl⟩
  by_cases h3:97<=c.toNat
  ·by_cases h4:c.toNat<=122
   ·have HA:=key true (by simp [Dt.jG,h1,h2,h3,h4]);have d1:(48:Int)<=(c.toNat:Int):=by omega
    have d2:(57:Int)<(c.toNat:Int):=by omega
    have e2:decide ((c.toNat:Int)<=57)=false:=by simp;omega
    have d3:(97:Int)<=(c.toNat:Int):=by omega
    have d4:(c.toNat:Int)<=122:=by omega
    go_enter Tryz.func128,Tryz.ntmps128;go_wp2;go_ret;rw [HA.out];exact⟨rfl,rfl⟩
   have HA:=key false (by simp [Dt.jG];omega);have d1:(48:Int)<=(c.toNat:Int):=by omega
   have d2:(57:Int)<(c.toNat:Int):=by omega
   have e2:decide ((c.toNat:Int)<=57)=false:=by simp;omega
   have d3:(97:Int)<=(c.toNat:Int):=by omega
   have d4:(122:Int)<(c.toNat:Int):=by omega
   have e4:decide ((c.toNat:Int)<=122)=false:=by simp;omega
   have d5:(65:Int)<=(c.toNat:Int):=by omega
   have d6:(90:Int)<(c.toNat:Int):=by omega
   have e6:decide ((c.toNat:Int)<=90)=false:=by simp;omega
   go_enter Tryz.func128,Tryz.ntmps128;go_wp2;go_ret;rw [HA.out];exact⟨rfl,rfl⟩
  by_cases h5:65<=c.toNat∧c.toNat<=90
  ·have HA:=key true (by simp [Dt.jG];omega);have d1:(48:Int)<=(c.toNat:Int):=by omega
   have d2:(57:Int)<(c.toNat:Int):=by omega
   have e2:decide ((c.toNat:Int)<=57)=false:=by simp;omega
   have d3:(c.toNat:Int)<97:=by omega
   have d5:(65:Int)<=(c.toNat:Int):=by omega
   have d6:(c.toNat:Int)<=90:=by omega
   go_enter Tryz.func128,Tryz.ntmps128;go_wp2;go_ret;rw [HA.out];exact⟨rfl,rfl⟩
  have HA:=key false (by simp [Dt.jG];omega);have d1:(48:Int)<=(c.toNat:Int):=by omega
  have d2:(57:Int)<(c.toNat:Int):=by omega
  have e2:decide ((c.toNat:Int)<=57)=false:=by simp;omega
  have d3:(c.toNat:Int)<97:=by omega
  by_cases h6:65<=c.toNat
  ·have d5:(65:Int)<=(c.toNat:Int):=by omega
   have d6:(90:Int)<(c.toNat:Int):=by omega
   have e6:decide ((c.toNat:Int)<=90)=false:=by simp;omega
   go_enter Tryz.func128,Tryz.ntmps128;go_wp2;go_ret;rw [HA.out];exact⟨rfl,rfl⟩
  have d5:(c.toNat:Int)<65:=by omega
  go_enter Tryz.func128,Tryz.ntmps128;go_wp2;go_ret;rw [HA.out];exact⟨rfl,rfl⟩
 have HA:=key false (by simp [Dt.jG];omega);have d1:(c.toNat:Int)<48:=by omega
 have d3:(c.toNat:Int)<97:=by omega
 have d5:(c.toNat:Int)<65:=by omega
 go_enter Tryz.func128,Tryz.ntmps128;go_wp2;go_ret;rw [HA.out];exact⟨rfl,rfl⟩
theorem EO(t:Int)(w:World):
 Calls Tryz.prog 98 #[.int .i64 t] w fun e w'=>e=.returned (.string (Dt.mY t))∧w'=w:=by
 by_cases h:t=1∨t=2∨t=5∨t=6∨t=12∨t=13∨t=15∨t=16∨t=28∨t=33∨t=35∨t=39∨t=47∨t=257
 ·rcases h with rfl|rfl|rfl|rfl|rfl|rfl|rfl|rfl|rfl|rfl|rfl|rfl|rfl|rfl
  all_goals
   go_enter Tryz.func98,Tryz.ntmps98;go_wp2;go_ret;exact⟨rfl,rfl⟩
 have HA:Hid (Dt.mY t=⟨#[42]⟩):=by
  show _=_
  unfold Dt.mY;simp only [show ¬t=1 by omega,show ¬(t=2∨t=5∨t=12∨t=39) by omega,show ¬t=6 by omega,show ¬t=13 by omega,show ¬t=15 by omega,show ¬t=16 by omega,show ¬t=28 by omega,show ¬t=33 by omega,show ¬t=35 by omega,show ¬t=47 by omega,show ¬t=257 by omega,if_false]
 have b1:(t==1)=false:=by rw [dC];omega
 have b2:(t==2)=false:=by rw [dC];omega
 have b3:(t==5)=false:=by rw [dC];omega
 have b4:(t==6)=false:=by rw [dC];omega
 have b5:(t==12)=false:=by rw [dC];omega
 have b6:(t==13)=false:=by rw [dC];omega
 have b7:(t==15)=false:=by rw [dC];omega
 have b8:(t==16)=false:=by rw [dC];omega
 have b9:(t==28)=false:=by rw [dC];omega
 have b10:(t==33)=false:=by rw [dC];omega
 have b11:(t==35)=false:=by rw [dC];omega
 have b12:(t==39)=false:=by rw [dC];omega
 have b13:(t==47)=false:=by rw [dC];omega
 have b14:(t==257)=false:=by rw [dC];omega
 clear h;go_enter Tryz.func98,Tryz.ntmps98;go_wp2;go_ret;rw [HA.out];exact⟨rfl,rfl⟩
theorem aBy{s:ByteArray}(h:0<s.size)(h1:s.size<s[0].toNat+1):Dt.fG s=ByteArray.empty:=by
 rw [Dt.fG,dif_pos h,if_neg (by omega)]
theorem aFg{s:ByteArray}(h:0<s.size)(h1:s[0].toNat+1<=s.size):Dt.fG s=s.extract 0 (s[0].toNat+1):=by
 rw [Dt.fG,dif_pos h,if_pos h1]
theorem aFh{s:ByteArray}(h:s.size=0):Dt.fG s=ByteArray.empty:=by
 rw [Dt.fG,dif_neg (by omega)]
theorem EP(s:ByteArray)(w:World)(hs:s.size<=maxLen):
 Calls Tryz.prog 127 #[.string s] w fun e w'=>e=.returned (.string (Dt.fG s))∧w'=w:=by
 unfold maxLen at hs
 by_cases h0:s.size=0
 ·have HA:=Nm.aF (aFh h0)
  have he:s=ByteArray.empty:=by
   apply ByteArray.ext;exact Array.eq_empty_of_size_eq_zero h0
  subst he;go_enter Tryz.func127,Tryz.ntmps127;go_wp2;go_ret;rw [HA.out];exact⟨rfl,rfl⟩
 have hp:0<s.size:=by omega
 have VQ:(0:Int)<(s.size:Int):=by omega
 have he:(s.toList==[])=false:=by
  rw [dC,ByteArray.toList_eq];intro e;have h9:=congrArg List.length e;rw [Array.length_toList] at h9;exact h0 h9
 have hc:(s[0].toNat:Int)<256:=by have:=s[0].toNat_lt;omega
 by_cases h1:s.size<s[0].toNat+1
 ·have HA:=Nm.aF (aBy hp h1);have YZ:(s.size:Int)<(s[0].toNat:Int)+1:=by omega
  go_enter Tryz.func127,Tryz.ntmps127;go_wp2;go_ret;rw [HA.out];exact⟨rfl,rfl⟩
 have HA:=Nm.aF (aFg hp (by omega));have YZ:(s[0].toNat:Int)+1<=(s.size:Int):=by omega
 go_enter Tryz.func127,Tryz.ntmps127;go_wp2;go_ret;rw [HA.out];exact⟨rfl,rfl⟩
theorem aBz{s:ByteArray}{i:Nat}(h:i<s.size)(h2:i<255)(h0:s[i].toNat=0):Dt.fJ 256 s i=s.extract 0 (i+1):=by
 rw [Dt.fJ,dif_pos ⟨h,h2⟩,if_pos h0]
theorem aFi{s:ByteArray}{i:Nat}(h:i<s.size)(h2:i<255)(h0:63<s[i].toNat):Dt.fJ 256 s i=ByteArray.empty:=by
 rw [Dt.fJ,dif_pos ⟨h,h2⟩,if_neg (by omega),if_pos h0]
theorem aB0{s:ByteArray}{i:Nat}(h:i<s.size)(h2:i<255)(h0:s[i].toNat≠0)(h1:s[i].toNat<=63):Dt.fJ 256 s i=Dt.fJ 256 s (i+s[i].toNat+1):=by
 rw [Dt.fJ,dif_pos ⟨h,h2⟩,if_neg h0,if_neg (by omega)];exact Dt.LJ _ _ _ _ (by omega) (by omega)
theorem Md{s:ByteArray}{i:Nat}(h:¬(i<s.size∧i<255)):Dt.fJ 256 s i=ByteArray.empty:=by
 rw [Dt.fJ,dif_neg h]
theorem Ad(s:ByteArray)(w:World):
 Calls Tryz.prog 126 #[.string s] w fun e w'=>e=.returned (.string (Dt.dG s))∧w'=w:=by
 have H0:Dt.dG s=Dt.fJ 256 s 0:=rfl;go_enter Tryz.func126,Tryz.ntmps126;go_wp2
 go_loop [3] (fun v=>∃ i:Nat,i<=400∧v=.int .i64 i∧Dt.dG s=Dt.fJ 256 s i) (fun v=>400-(intOf v).toNat)
 case atStart=>exact⟨0,by omega,rfl,H0⟩
 obtain⟨i,hi,rfl,hn⟩:=hrel;clear H0
 by_cases h1:i<s.size
 ·have YZ:(i:Int)<(s.size:Int):=by omega
  by_cases h2:i<255
  ·have Sb:(i:Int)<255:=by omega
   have hc:(s[i].toNat:Int)<256:=by have:=s[i].toNat_lt;omega
   by_cases h3:s[i].toNat=0
   ·have HN:=Nm.aF (hn.trans (aBz h1 h2 h3));have h3':((s[i].toNat:Int)==0)=true:=by rw [beq_iff_eq];omega
    clear hn;go_wp2;go_ret;rw [HN.out];exact⟨rfl,rfl⟩
   have h3':((s[i].toNat:Int)==0)=false:=by rw [dC];omega
   by_cases h4:63<s[i].toNat
   ·have HN:=Nm.aF (hn.trans (aFi h1 h2 h4));have h4':(63:Int)<(s[i].toNat:Int):=by omega
    clear hn;go_wp2;go_ret;rw [HN.out];exact⟨rfl,rfl⟩
   have HN:=Nm.aF (hn.trans (aB0 h1 h2 h3 (by omega)));have h4':(s[i].toNat:Int)<=63:=by omega
   clear hn;go_wp2
   go_round
   case rel=>exact⟨i+s[i].toNat+1,by omega,by go_num,HN.out⟩
   simp [intOf];omega
  have HN:=Nm.aF (hn.trans (Md (by omega)));have Sb:(255:Int)<=(i:Int):=by omega
  clear hn;go_wp2;go_ret;rw [HN.out];exact⟨rfl,rfl⟩
 have HN:=Nm.aF (hn.trans (Md (by omega)));have YZ:(s.size:Int)<=(i:Int):=by omega
 clear hn;go_wp2;go_ret;rw [HN.out];exact⟨rfl,rfl⟩
def szV(o:Option Nat):Value:=.tuple #[.int .i64 ((o.getD 0:Nat):Int),.bool o.isSome]
theorem VR{s:ByteArray}{i:Nat}(h:Dt.dG s=Dt.fJ 256 s i)(h1:Dt.fJ 256 s i=ByteArray.empty):szV (Dt.sz .nm s)=.tuple #[.int .i64 0,.bool false]:=by
 have:(Dt.dG s).size=0:=by rw [h,h1];rfl
 rw [Dt.sz,if_pos this];rfl
theorem aFj{s:ByteArray}{i:Nat}(h:Dt.dG s=Dt.fJ 256 s i)(h1:i<s.size)(h2:i<255)(h0:s[i].toNat=0):szV (Dt.sz .nm s)=.tuple #[.int .i64 ((i:Int)+1),.bool true]:=by
 have e:Dt.fJ 256 s i=s.extract 0 (i+1):=by rw [Dt.fJ,dif_pos ⟨h1,h2⟩,if_pos h0]
 have e1:(Dt.dG s).size=i+1:=by rw [h,e];simp;omega
 rw [Dt.sz,if_neg (by omega),e1];rfl
theorem aFk{s:ByteArray}{i:Nat}(h:Dt.dG s=Dt.fJ 256 s i)(h1:i<s.size)(h2:i<255)(h0:s[i].toNat≠0)(h3:s[i].toNat<=63):Dt.dG s=Dt.fJ 256 s (i+(1+s[i].toNat)):=by
 rw [h,Dt.fJ,dif_pos ⟨h1,h2⟩,if_neg h0,if_neg (by omega),show i+s[i].toNat+1=i+(1+s[i].toNat) by omega];exact Dt.LJ _ _ _ _ (by omega) (by omega)
theorem aJg{s:ByteArray}{i:Nat}(h1:i<s.size)(h2:i<255)(h0:63<s[i].toNat):Dt.fJ 256 s i=ByteArray.empty:=by
 rw [Dt.fJ,dif_pos ⟨h1,h2⟩,if_neg (by omega),if_pos h0]
theorem aAp{s:ByteArray}{i:Nat}(h:¬(i<s.size∧i<255)):Dt.fJ 256 s i=ByteArray.empty:=by
 rw [Dt.fJ,dif_neg h]
theorem MF(s:ByteArray)(w:World):
 Calls Tryz.prog 178 #[.string s] w fun e w'=>e=.returned (szV (Dt.sz .nm s))∧w'=w:=by
 have H0:Dt.dG s=Dt.fJ 256 s 0:=rfl;go_enter Tryz.func178,Tryz.ntmps178;go_wp2
 go_loop [4] (fun v=>∃ i:Nat,i<255∧v=.int .i64 i∧Dt.dG s=Dt.fJ 256 s i) (fun v=>400-(intOf v).toNat)
 case atStart=>exact⟨0,by omega,rfl,H0⟩
 obtain⟨i,hi,rfl,hn⟩:=hrel;clear H0
 by_cases h1:i<s.size
 ·have YZ:(i:Int)<(s.size:Int):=by omega
  have hc:(s[i].toNat:Int)<256:=by have:=s[i].toNat_lt;omega
  by_cases h3:s[i].toNat=0
  ·have HN:=Nm.aF (aFj hn h1 hi h3);have h3':((s[i].toNat:Int)==0)=true:=by rw [beq_iff_eq];omega
   clear hn h3;go_wp2;go_ret2;rw [HN.out];exact⟨rfl,rfl⟩
  have h3':((s[i].toNat:Int)==0)=false:=by rw [dC];omega
  have h3'':(0:Int)<(s[i].toNat:Int):=by omega
  by_cases h4:63<s[i].toNat
  ·have HN:=Nm.aF (VR hn (aJg h1 hi h4));have h4':(63:Int)<(s[i].toNat:Int):=by omega
   clear hn h3;go_wp2_with (go_at_call 193;go_in)
   go_ret2;rw [HN.out];exact⟨rfl,rfl⟩
  have h4':(s[i].toNat:Int)<=63:=by omega
  have oG:=aFk hn h1 hi h3 (by omega)
  by_cases h5:255<=i+(1+s[i].toNat)
  ·have HN:=Nm.aF (VR oG (aAp (by omega)));have h5':(255:Int)<=(i:Int)+(1+(s[i].toNat:Int)):=by omega
   clear hn h3 oG;go_wp2_with (go_at_call 193;go_in)
   go_ret2;rw [HN.out];exact⟨rfl,rfl⟩
  have HN:=Nm.aF oG;have h5':(i:Int)+(1+(s[i].toNat:Int))<255:=by omega
  clear hn h3 oG;go_wp2_with (go_at_call 193;go_in)
  go_round
  case rel=>exact⟨i+(1+s[i].toNat),by omega,by go_num,HN.out⟩
  simp [intOf];omega
 have HN:=Nm.aF (VR hn (aAp (by omega)));have YZ:(s.size:Int)<=(i:Int):=by omega
 clear hn;go_wp2;go_ret2;rw [HN.out];exact⟨rfl,rfl⟩
theorem aJh:∀ (a b:List UInt8),Go.Lib.compareBytes a b=Nm.iD a b:=by
 intro a
 induction a with
 |nil=>
  intro b
  cases b with
  |nil=>rfl
  |cons y b=>rfl
 |cons x a ih=>
  intro b
  cases b with
  |nil=>rfl
  |cons y b=>
   rw [Go.Lib.compareBytes]
   by_cases h:x=y
   ·subst h;rw [if_neg (by simp),if_neg (by simp),Nm.vS,ih]
   rw [Nm.vJ a b h];have hn:x.toNat≠y.toNat:=fun e=>h (UInt8.toNat_inj.1 e)
   by_cases hl:x<y
   ·have Es:(x.toNat:Int)<(y.toNat:Int):=by have:=UInt8.lt_iff_toNat_lt.1 hl;omega
    rw [if_pos hl,Nm.oJ Es]
   have Es:(y.toNat:Int)<(x.toNat:Int):=by
    have:¬x.toNat<y.toNat:=fun e=>hl (UInt8.lt_iff_toNat_lt.2 e)
    omega
   have EI:y<x:=UInt8.lt_iff_toNat_lt.2 (by omega);rw [if_neg hl,if_pos EI,Nm.oK Es]
theorem Ae(a b:ByteArray)(w:World):(callFunc 201 #[.string a,.string b]).run Tryz.prog w=.ok (.value (.int .i64 (Nm.iD a.data.toList b.data.toList))) w:=by
 have h:=run_callFunc_extern (P:=Tryz.prog) (f:=201) (fn:=Tryz.f201) (e:=Extern.BytealgCompare.compare) Tryz.func201 (by kernel_rfl) (by kernel_rfl) (by kernel_rfl) (by kernel_rfl) #[.string a,.string b] w;rw [h,Go.Lib.run_compareString,aJh];rfl
theorem Fp(a b:ByteArray)(w:World):
 Calls Tryz.prog 168 #[.string a,.string b] w fun e w'=>e=.returned (.int .i64 (Nm.iD a.data.toList b.data.toList))∧w'=w:=by
 have hx:=Ae a b;generalize Nm.iD a.data.toList b.data.toList=r at*;go_enter Tryz.func168,Tryz.ntmps168;go_wp2_with (go_at_call 186;go_in)
 go_ret;exact⟨rfl,rfl⟩
theorem jZ(s:ByteArray)(w:World)(hs:s.size<=maxLen):
 Calls Tryz.prog 68 #[.string s] w fun e w'=>∃ v,e=.returned (.tuple #[v,.bool (Nm.split s).isSome])∧
  w'.ownsRow w.heap.size 9 1 v ((Nm.split s).getD []).length (((Nm.split s).getD []).map Value.string)∧Below w.heap.size w w':=by
 unfold maxLen at hs;obtain⟨i0,hi,iJ,fP,fZ⟩:=info_parts Tryz.AU
 by_cases aOu:255<s.size
 ·have H:Hid (Nm.split s=none):=Nm.AR s aOu;have hl:(255:Int)<(s.size:Int):=by omega
  go_enter Tryz.func68,Tryz.ntmps68;go_wp2;go_ret2;rw [H.out];exact⟨_,rfl,World.ownsRow_nil _ _ _ _,(aK _ _).alloc (aN _) _⟩
 by_cases aMm:s.size=0
 ·have H:Hid (Nm.split s=none):=Nm.UO (Nm.UN s (by omega)) aMm;have hl:(s.size:Int)<1:=by omega
  go_enter Tryz.func68,Tryz.ntmps68;go_wp2;go_ret2;rw [H.out];exact⟨_,rfl,World.ownsRow_nil _ _ _ _,(aK _ _).alloc (aN _) _⟩
 have hl:(s.size:Int)<=255:=by omega
 have CX:(1:Int)<=(s.size:Int):=by omega
 have oG:=Nm.UN s (by omega);go_enter Tryz.func68,Tryz.ntmps68;go_wp2
 go_loopw [4,5] (fun v x wr=>∃ (ls:List ByteArray) (r:ByteArray),x=.string r∧Nm.At s ls r∧ls.length+r.size<=255∧wr.ownsRow w.heap.size 9 1 v ls.length (ls.map Value.string)∧Below w.heap.size w wr)
  (fun _ x _=>match x with|.string r=>r.size|_=>0)
 case atStart=>exact⟨[],s,rfl,oG,by simp;omega,World.ownsRow_made w #[] 0 (aN _) (by decide) rfl,(aK _ _).alloc (aN _) _⟩
 obtain⟨ls,r,rfl,iT,hb,aU,aJ⟩:=hrel;clear oG
 by_cases h0:r.size=0
 ·have HN:Hid (Nm.split s=none):=Nm.UO iT h0;have e2:=Nm.UQ h0;go_wp2;go_ret2;rw [HN.out];exact⟨_,rfl,World.ownsRow_nil _ _ _ _,aJ⟩
 have hp:0<r.size:=by omega
 have hn:(r[0].toNat:Int)<256:=by have:=r[0].toNat_lt;omega
 have e2:=Nm.LF hp
 by_cases h2:r[0].toNat=0
 ·have e3:((r[0].toNat:Int)==0)=true:=by simp [h2]
  by_cases h1:r.size=1
  ·have HN:Hid (Nm.split s=some ls):=Nm.at_end iT hp h2 h1;have e4:((r.size:Int) != 1)=false:=by simp [h1]
   clear h1 h2;go_wp2;go_ret2;rw [HN.out];exact⟨_,rfl,aU,aJ⟩
  have HN:Hid (Nm.split s=none):=Nm.aAd iT hp h2 h1;have e4:((r.size:Int) != 1)=true:=by rw [bne_iff_ne];omega
  clear h1 h2;go_wp2;go_ret2;rw [HN.out];exact⟨_,rfl,World.ownsRow_nil _ _ _ _,aJ⟩
 have e3:((r[0].toNat:Int)==0)=false:=by rw [dC];omega
 have e3':(0:Int)<(r[0].toNat:Int):=by omega
 by_cases h3:63<r[0].toNat
 ·have HN:Hid (Nm.split s=none):=Nm.Td iT hp h2 (.inl h3);have e4:(63:Int)<(r[0].toNat:Int):=by omega
  clear h2 h0 h3;go_wp2;go_ret2;rw [HN.out];exact⟨_,rfl,World.ownsRow_nil _ _ _ _,aJ⟩
 have e4:(r[0].toNat:Int)<=63:=by omega
 by_cases h4:r.size<r[0].toNat+1
 ·have HN:Hid (Nm.split s=none):=Nm.Td iT hp h2 (.inr h4);have e5:(r.size:Int)<(r[0].toNat:Int)+1:=by omega
  clear h2 h0 h3 h4;go_wp2;go_ret2;rw [HN.out];exact⟨_,rfl,World.ownsRow_nil _ _ _ _,aJ⟩
 have e5:(r[0].toNat:Int)+1<=(r.size:Int):=by omega
 have HN:Hid (Nm.At s (ls++[r.extract 1 (r[0].toNat+1)]) (r.extract (r[0].toNat+1) r.size)):=Nm.aAe iT hp h2 (by omega) (by omega);have pQ:=aJ.size;clear h2 h0 h3 h4;go_wp2_with (at_builtin;refine wpList_append_own _ rfl (.tmp 37) (.tmp 42) 58 rfl w.heap.size 9 i0 (.string ByteArray.empty) 1 16 Tryz.underlying58 hi iJ fP fZ rfl (by decide) _ _ _ rfl (aU.alloc _) ⟨wr.heap.size,0,none⟩ 1 1 [.string (r.extract 1 (r[0].toNat+1))] rfl rfl ?c1 ?c2 ?c3 ?c4 ?c5 ?_)
 case c1=>
  intro j u hj
  match j,hj with
  |0,hj=>simp at hj;subst hj;simp [Addr.add]
 case c2=>exact Nm.one_cell _ rfl
 case c3=>unfold maxLen;omega
 case c4=>omega
 case c5=>simp;omega
 intro v' w1 dD bZ _;have R:=nK pQ aU aJ _ dD bZ;clear dD bZ aU aJ;go_wp2;go_roundw
 case rel=>exact⟨_,_,rfl,HN.out,by simp;omega,R.1,R.2⟩
 simp;omega
theorem aB1{a b:ByteArray}(h:Nm.split a=none):Nm.rU a b=0:=by simp [Nm.rU,h]
theorem Ud{a b:ByteArray}(h:Nm.split b=none):Nm.rU a b=0:=by
 cases ha:Nm.split a<;>simp [Nm.rU,h,ha]
theorem aB2{a b:ByteArray}{xs ys:List ByteArray}(ha:Nm.split a=some xs)(hb:Nm.split b=some ys):Nm.rU a b=Nm.bJ xs ys:=by simp [Nm.rU,ha,hb]
theorem Fq(a b:ByteArray)(w:World):
 Calls Tryz.prog 155 #[.string a,.string b] w fun e w'=>e=.returned (.int .i64 (Nm.iD a.toList b.toList))∧w'=w:=by
 cases h1:Op.bytesLess a.toList b.toList with
 |true=>
  have HC:Hid (Nm.iD a.toList b.toList= -1):=by show _=_;simp [Nm.iD,h1]
  go_enter Tryz.func155,Tryz.ntmps155;go_wp2;go_ret;rw [HC.out]
  exact⟨rfl,rfl⟩
 |false=>
  cases h2:(a.toList==b.toList) with
  |true=>
   have HC:Hid (Nm.iD a.toList b.toList=0):=by show _=_;rw [Nm.iD,if_neg (by simp [h1]),if_pos (beq_iff_eq.1 h2)]
   go_enter Tryz.func155,Tryz.ntmps155;go_wp2;go_ret;rw [HC.out]
   exact⟨rfl,rfl⟩
  |false=>
   have HC:Hid (Nm.iD a.toList b.toList=1):=by show _=_;simp [Nm.iD,h1,dC.1 h2]
   go_enter Tryz.func155,Tryz.ntmps155;go_wp2;go_ret;rw [HC.out];exact⟨rfl,rfl⟩
theorem ER(s:ByteArray)(w:World)(hs:s.size<=maxLen):
 Calls Tryz.prog 60 #[.string s] w fun e w'=>e=.returned (.bool (Nm.split s).isSome)∧Below w.heap.size w w':=by
 go_enter Tryz.func60,Tryz.ntmps60;go_wp2_with (go_at_call 68;refine(jZ s _ hs).mono ?_;rintro e w1 ⟨v,rfl,aU,aJ⟩)
 go_ret;exact⟨rfl,by assumption⟩
def qJ(w:World)(g:Nat)(a:Option Addr)(n:Nat):Prop:=
 n=0∨∃ b off,a=some ⟨b,off,none⟩∧b≠g∧∀ i,i<n->∃ c:Int,w.cell? ⟨b,off+i,none⟩=some (.int .u8 c)∧0<=c∧c<256
def Src(w:World)(g:Nat)(a:Option Addr)(n cap:Nat):Prop:=
 ∃ pos st:Int,w.heap[g]? =some (.cells #[.slice a n cap,.int .i64 pos,.int .u64 st] 41 (0,0))∧0<=pos∧pos<=n∧n<=1048576∧qJ w g a n
theorem VS{w:World}{g i:Nat}{a:Option Addr}{n:Nat}{v:Value}(h:qJ w g a n):qJ (w.setCell ⟨g,i,none⟩ v) g a n:=by
 rcases h with h|⟨b,off,e,hb,hc⟩
 ·exact .inl h
 refine .inr ⟨b,off,e,hb,fun j hj=>?_⟩;obtain⟨c,h1,h2⟩:=hc j hj;refine⟨c,?_,h2⟩;rw [World.cell?_setCell_other w ⟨g,i,none⟩ ⟨b,off+j,none⟩ v (by intro h;cases h;exact hb rfl)];exact h1
theorem aJi{w:World}{g n cap:Nat}{a:Option Addr}{pos st:Int}(hb:w.heap[g]? =some (.cells #[.slice a n cap,.int .i64 pos,.int .u64 st] 41 (0,0)))(SS:0<=pos)(hpn:pos<=n)(hn:n<=1048576)(hc:qJ w g a n)(s2:Int):
 Src (w.setCell ⟨g,2,none⟩ (.int .u64 s2)) g a n cap∧w.grownBy (w.setCell ⟨g,2,none⟩ (.int .u64 s2)) (some g):=by
 refine⟨⟨pos,s2,?_,SS,hpn,hn,VS hc⟩,⟨rfl,rfl,rfl,by simp,fun k _ hk=>heap_setCell_other w ⟨g,2,none⟩ k _ (fun e=>hk (by simp [e]))⟩⟩;rw [heap_setCell_same w g 2 _ _ _ hb];rfl
theorem aJj{w:World}{g n cap:Nat}{a:Option Addr}{pos st:Int}(hb:w.heap[g]? =some (.cells #[.slice a n cap,.int .i64 pos,.int .u64 st] 41 (0,0)))(hn:n<=1048576)(hc:qJ w g a n)(s2 p2:Int)(SS:0<=p2)(hpn:p2<=n):
 Src ((w.setCell ⟨g,2,none⟩ (.int .u64 s2)).setCell ⟨g,1,none⟩ (.int .i64 p2)) g a n cap∧w.grownBy ((w.setCell ⟨g,2,none⟩ (.int .u64 s2)).setCell ⟨g,1,none⟩ (.int .i64 p2)) (some g):=by
 have h1:=heap_setCell_same w g 2 _ _ (.int .u64 s2) hb;have h2:=heap_setCell_same _ g 1 _ _ (.int .i64 p2) h1;refine⟨⟨p2,s2,?_,SS,hpn,hn,VS (VS hc)⟩,⟨rfl,rfl,rfl,by simp,fun k _ hk=>?_⟩⟩
 ·rw [h2];rfl
 rw [heap_setCell_other _ ⟨g,1,none⟩ k _ (fun e=>hk (by simp [e])),heap_setCell_other w ⟨g,2,none⟩ k _ (fun e=>hk (by simp [e]))]
theorem ES{w w':World}{row:Option Nat}(h:w.grownBy w' row):w.grownBy w'.drew row:=⟨h.os,h.tape,h.output,h.size,h.block⟩
theorem aZ{w w1 w2:World}{g:Nat}(h:w.grownBy w1 (some g))(h2:w1.grownBy w2 (some g)):w.grownBy w2 (some g):=
 ⟨h2.os.trans h.os,h2.tape.trans h.tape,h2.output.trans h.output,iL h.size h2.size,fun k hk dQ=>(h2.block k (sP hk h.size) dQ).trans (h.block k hk dQ)⟩
theorem zQ{w w1 w2:World}{g:Nat}{row:Option Nat}(h:w.grownBy w1 (some g))(h2:w1.grownBy w2 row)(hr:∀ k,row=some k->w.heap.size<=k):w.grownBy w2 (some g):=
 ⟨h2.os.trans h.os,h2.tape.trans h.tape,h2.output.trans h.output,iL h.size h2.size,fun k hk dQ=>
  (h2.block k (sP hk h.size) (fun e=>by have:=hr k e.symm;omega)).trans (h.block k hk dQ)⟩
theorem bM{w w1 w2:World}{g:Nat}(h:w.grownBy w1 (some g))(h2:Below w1.heap.size w1 w2):w.grownBy w2 (some g):=
 ⟨h2.os.trans h.os,h2.tape.trans h.tape,h2.output.trans h.output,iL h.size h2.size,fun k hk dQ=>
  (h2.block k (sP hk h.size)).trans (h.block k hk dQ)⟩
theorem dR{w w1:World}{g:Nat}(h:w.grownBy w1 (some g))(o:Obj):w.grownBy (w1.alloc o) (some g):=
 bM h ((aK _ _).alloc (aN _) o)
theorem bH{w w1:World}{g n cap:Nat}{a:Option Addr}(h:Src w g a n cap)(hb:Below w.heap.size w w1):Src w1 g a n cap:=by
 obtain⟨pos,st,h1,h2,h3,h4,h5⟩:=h;refine⟨pos,st,?_,h2,h3,h4,?_⟩
 ·rw [hb.block g (Array.getElem?_eq_some_iff.1 h1).1];exact h1
 rcases h5 with h5|⟨b,off,e,dQ,hc⟩
 ·exact .inl h5
 refine .inr ⟨b,off,e,dQ,fun j hj=>?_⟩;obtain⟨c,iK,mD⟩:=hc j hj;exact⟨c,(hb.cell (eB w _ iK)).trans iK,mD⟩
theorem GN{w w0 w1:World}{g n cap:Nat}{a:Option Addr}{row:Option Nat}(h:Src w g a n cap)(hg:w.grownBy w1 row)(hr:∀ k,row=some k->w0.heap.size<=k)(bV:g<w0.heap.size)(iB:qJ w0 g a n):Src w1 g a n cap:=by
 obtain⟨pos,st,h1,h2,h3,h4,h5⟩:=h;refine⟨pos,st,?_,h2,h3,h4,?_⟩
 ·rw [hg.block g (Array.getElem?_eq_some_iff.1 h1).1 (fun e=>by have:=hr g e.symm;omega)];exact h1
 rcases h5 with h5|⟨b,off,e,dQ,hc⟩
 ·exact .inl h5
 rcases iB with h6|⟨b',off',e',_,DF⟩
 ·exact .inl h6
 rw [e] at e';simp only [mP,Addr.mk.injEq,and_true] at e';obtain⟨rfl,rfl⟩:=e';refine .inr ⟨b,off,e,dQ,fun j hj=>?_⟩;obtain⟨c,iK,mD⟩:=hc j hj;obtain⟨c',aSu,_⟩:=DF j hj;have Me:=eB w0 _ aSu;exact⟨c,hg.cell iK (fun e=>by have h7:=hr b e.symm;have h8:b<w0.heap.size:=Me;omega),mD⟩
theorem uH{w:World}{g n cap:Nat}{a:Option Addr}(h:Src w g a n cap):qJ w g a n∧g<w.heap.size:=by
 obtain⟨pos,st,h1,h2,h3,h4,h5⟩:=h;exact⟨h5,(Array.getElem?_eq_some_iff.1 h1).1⟩
theorem lD{w:World}{B e m g n cap:Nat}{a:Option Addr}{v:Value}{xs:List Value}(h:w.ownsRow B e 1 v m xs)(hs:Src w g a n cap)(dQ:e≠41):v.ownBlock=none∨v.ownBlock≠some g:=by
 obtain⟨pos,st,h1,_⟩:=hs
 rcases h.2 with⟨rfl,_⟩|⟨g',cap',cur,rfl,_,hh,_⟩
 ·exact .inl rfl
 right;simp only [Value.ownBlock,ne_eq,mP];intro e2;subst e2;rw [hh] at h1;simp at h1;exact dQ h1.2
theorem VT{x N:Int}(hx:0<=x)(h1:1<=N)(h2:N<=4294967296):0<=wrap64 (x.tmod N)∧wrap64 (x.tmod N)<N:=by
 have a1:0<=x.tmod N:=Int.tmod_nonneg N hx;have a2:x.tmod N<N:=Int.tmod_lt_of_pos x (by omega);rw [IntWalk.wrap64_in (x.tmod N) ⟨by omega,by omega⟩];exact⟨a1,a2⟩
theorem aMn(k:Int):0<=IntKind.u64.wrap k:=(bounds_u64 (wf_wrap .u64 k)).1
theorem aJk(op:BinOp)(x y:Int):0<=bits op .u64 x y:=(bounds_u64 (wf_bits op .u64 x y)).1
theorem aY(g:Nat)(a:Option Addr)(n cap:Nat)(N:Int)(w:World)(h:Src w g a n cap)(hN:N<=4294967296):
 Calls Tryz.prog 11 #[.pointer (some ⟨g,0,none⟩),.int .i64 N] w fun e w'=>∃ r:Int,e=.returned (.int .i64 r)∧0<=r∧(0<N->r<N)∧Src w' g a n cap∧w.grownBy w' (some g):=by
 obtain⟨pos,st,hb,SS,hpn,hn,iB⟩:=h
 by_cases hN0:N<=0
 ·go_enter Tryz.func11,Tryz.ntmps11;go_wp2;go_ret;exact⟨0,rfl,by omega,by omega,⟨pos,st,hb,SS,hpn,hn,iB⟩,World.grownBy.refl _ _⟩
 have c0:w.cell? ⟨g,0,none⟩=some (.slice a n cap):=by rw [cell_of_row _ _ _ _ _ _ hb];rfl
 have c1:w.cell? ⟨g,1,none⟩=some (.int .i64 pos):=by rw [cell_of_row _ _ _ _ _ _ hb];rfl
 have c2:w.cell? ⟨g,2,none⟩=some (.int .u64 st):=by rw [cell_of_row _ _ _ _ _ _ hb];rfl
 have f0:=frozen_of_row w g 0 _ _ hb;have f1:=frozen_of_row w g 1 _ _ hb;have f2:=frozen_of_row w g 2 _ _ hb;have hN1:1<=N:=by omega
 by_cases bV:pos<n
 ·obtain⟨b,off,rfl,ZU,aL⟩:=iB.resolve_left (by omega);obtain⟨k,rfl⟩:=Int.eq_ofNat_of_zero_le SS;obtain⟨c,hc,VU,iK⟩:=aL k (by omega);have HS:=fun s2=>Nm.aF (aJj hb hn iB s2 ((k:Int)+1) (by omega) (by omega))
  clear hb iB;go_enter Tryz.func11,Tryz.ntmps11;go_wp2;go_region
  go_wp2;go_region
  go_wp2;go_ret;have B:=VT (N:=N) (aJk .xor (IntKind.u64.wrap (IntKind.u64.wrap (st*6364136223846793005)+1442695040888963407) / 8589934592) c) hN1 hN;exact⟨_,rfl,B.1,fun _=>B.2,(HS _).out.1,ES (ES (HS _).out.2)⟩
 have HS:=fun s2=>Nm.aF (aJi hb SS hpn hn iB s2)
 have hge:(n:Int)<=pos:=by omega
 clear hb iB;go_enter Tryz.func11,Tryz.ntmps11;go_wp2;go_region
 go_wp2;go_ret;have B:=VT (N:=N) (x:=IntKind.u64.wrap (IntKind.u64.wrap (st*6364136223846793005)+1442695040888963407) / 8589934592) (Int.ediv_nonneg (aMn _) (by decide)) hN1 hN;exact⟨_,rfl,B.1,fun _=>B.2,(HS _).out.1,ES (HS _).out.2⟩
theorem Fs(l:List UInt8):(⟨l.toArray⟩:ByteArray).size=l.length:=by show l.toArray.size=_;simp
theorem Tryz.aJl:(Tryz.prog.info? 5).map (fun i=>(i.zero,i.size,i.bytes))=some (some (.int .u8 0),1,1):=by kernel_rfl
theorem Mf(c:Nat)(W:World):(convert 22 9 (.slice (some ⟨c,0,none⟩) 0 0)).run Tryz.prog W=.ok (.string ByteArray.empty) W:=
 run_convert_bytes_back W 22 9 5 ⟨c,0,none⟩ 0 [] Tryz.underlying22 Tryz.underlying5 Tryz.underlying9 (by intro j hj;simp at hj)
theorem QX{r:Int}(h0:0<=r)(h1:r<256):∃ c:UInt8,(c.toNat:Int)=r:=by
 refine⟨UInt8.ofNat r.toNat,?_⟩;simp
 omega
theorem gN(g:Nat)(a:Option Addr)(n cap:Nat)(N:Int)(w:World)(h:Src w g a n cap)(hN0:0<=N)(hN:N<=1048576):
 Calls Tryz.prog 57 #[.pointer (some ⟨g,0,none⟩),.int .i64 N] w fun e w'=>∃ s:ByteArray,e=.returned (.string s)∧(s.size:Int)=N∧Src w' g a n cap∧w.grownBy w' (some g):=by
 obtain⟨j0,hj,k0,k1,k2⟩:=info_parts Tryz.aJl;obtain⟨m,rfl⟩:=Int.eq_ofNat_of_zero_le hN0;have hcd:=uH h
 by_cases hz:m=0
 ·subst hz;have TR:=fun W=>Mf w.heap.size W
  go_enter Tryz.func57,Tryz.ntmps57;go_wp2
  go_loop [5,6] (fun v i=>v=.slice (some ⟨w.heap.size,0,none⟩) 0 0∧i=.int .i64 0) (fun _ _=>0)
  case atStart=>exact⟨rfl,rfl⟩
  obtain⟨rfl,rfl⟩:=hrel;go_wp2;go_ret;exact⟨ByteArray.empty,rfl,rfl,bH h ((aK _ _).alloc (aN _) _),dR (World.grownBy.refl _ _) _⟩
 go_enter Tryz.func57,Tryz.ntmps57;go_wp2
 go_loopw [5,6] (fun v i wr=>∃ (k:Nat) (l:List UInt8),k<=m∧i=.int .i64 k∧wr.ownsRow w.heap.size 5 1 v k (Nm.QL l)∧Src wr g a n cap∧w.grownBy wr (some g))
  (fun _ i _=>m-(intOf i).toNat)
 case atStart=>exact⟨0,[],dO _,rfl,World.ownsRow_made w #[] 0 (aN _) (by decide) rfl,bH h ((aK _ _).alloc (aN _) _),dR (World.grownBy.refl _ _) _⟩
 obtain⟨k,l,hk,rfl,aU,jT,nH⟩:=hrel;have pQ:=nH.size;clear h
 by_cases bV:k<m
 ·go_wp2_with (first|(go_at_call 11;refine(aY g a n cap 256 _ jT (by decide)).mono ?_;rintro e w3 ⟨r,rfl,OD,rH,VV,Fu⟩;have uR:=rH (by decide);obtain⟨c,hc⟩:=QX OD uR;subst hc;have kD:=aU.kept Fu (lD aU jT (by decide));have iA:=aZ nH Fu;have VW:=iA.size;clear rH)|(at_builtin;refine wpList_append_own _ rfl (.tmp 13) (.tmp 17) 22 rfl w.heap.size 5 j0 (.int .u8 0) 1 1 Tryz.underlying22 hj k0 k1 k2 rfl (by decide) _ _ _ rfl (kD.alloc _) ⟨w3.heap.size,0,none⟩ 1 1 [.int .u8 (c.toNat:Int)] rfl rfl (cell_one_new _ _ _) (Nm.one_cell _ rfl) (by unfold maxLen;omega) (by omega) (by simp;omega) ?_;intro vb wb jC qK Fv;clear Fv;have eF:∀ q,Value.ownBlock _=some q->w.heap.size<=q:=fun q hq=>(kD.lt q hq).1;have VX:=GN (bH VV ((aK _ _).alloc (aN _) _)) qK eF hcd.2 hcd.1;have QY:=zQ (dR iA _) qK eF;rw [Nm.aEy,<- Nm.JP] at jC;clear qK kD))
  go_roundw
  case rel=>exact⟨k+1,_,by omega,by go_num,jC,VX,QY⟩
  simp [intOf];omega
 have DJ:k=m:=by omega
 subst DJ;have hll:l.length=k:=by have:=aU.1;rw [Nm.AX] at this;omega
 obtain⟨g6,cp6,rfl,TR⟩:=Nm.LG (P:=Tryz.prog) Tryz.underlying22 Tryz.underlying5 Tryz.underlying9 aU (by omega);have hms:=Fs l;clear aU bV;go_wp2;go_ret;exact⟨_,rfl,by rw [hms];omega,jT,nH⟩
theorem iH(ls:List ByteArray):(⟨(Nm.joinL ls).toArray⟩:ByteArray).size=Nm.dP ls+1:=by
 rw [Fs,Nm.rT]
theorem vU(ls:List ByteArray)(x:ByteArray):Nm.dP (ls++[x])=Nm.dP ls+(1+x.size):=by
 rw [Nm.qV];simp [Nm.dP]
theorem zR{w w3 wb:World}{g n cap e:Nat}{a:Option Addr}{v vb:Value}{ls:List ByteArray}{x:ByteArray}{o:Obj}
 (aU:w3.ownsRow w.heap.size e 1 v ls.length (ls.map Value.string)) (jT:Src w3 g a n cap) (hg:w.grownBy w3 (some g)) (bV:g<w.heap.size) (iB:qJ w g a n)
 (dD:wb.ownsRow w.heap.size e 1 vb (ls.length+1) (ls.map Value.string++[.string x])) (bZ:(w3.alloc o).grownBy wb v.ownBlock):
 wb.ownsRow w.heap.size e 1 vb (ls++[x]).length ((ls++[x]).map Value.string)∧Src wb g a n cap∧w.grownBy wb (some g):=by
 have eF:∀ q,v.ownBlock=some q->w.heap.size<=q:=fun q hq=>(aU.lt q hq).1
 exact⟨by simpa using dD,GN (bH jT ((aK _ _).alloc (aN _) _)) bZ eF bV iB,zQ (dR hg _) bZ eF⟩
