import Derived.Test.YtmdinnjimioffaaGreatJMath
namespace Go.Proofs.YtmdinnjimioffaaGreat.Dt
open Go.RowKit
def alnumB(c:UInt8):Bool:=(decide (48<=c.toNat)&&decide (c.toNat<=57))||((decide (97<=c.toNat)&&decide (c.toNat<=122))||(decide (65<=c.toNat)&&decide (c.toNat<=90)))
def txtS(s:ByteArray):ByteArray:=
 if h:0<s.size then(if s[0].toNat+1<=s.size then s.extract 0 (s[0].toNat+1) else ByteArray.empty) else ByteArray.empty
def nameF:Nat->ByteArray->Nat->ByteArray
 |0,_,_=>ByteArray.empty
 |f+1,s,i=>
  if h:i<s.size∧i<255 then
   if s[i].toNat=0 then s.extract 0 (i+1)
   else if 63<s[i].toNat then ByteArray.empty
   else nameF f s (i+s[i].toNat+1)
  else ByteArray.empty
def nameAtS(s:ByteArray):ByteArray:=nameF 256 s 0
theorem nameF_enough:∀ (f g:Nat) (s:ByteArray) (i:Nat),255<f+i->255<g+i->nameF f s i=nameF g s i:=by
 intro f
 induction f with
 |zero=>
  intro g s i hf hg
  cases g with
  |zero=>rfl
  |succ g=>rw [nameF,nameF,dif_neg (by omega)]
 |succ f ih=>
  intro g s i hf hg
  cases g with
  |zero=>rw [nameF,nameF,dif_neg (by omega)]
  |succ g=>
   rw [nameF,nameF]
   by_cases h:i<s.size∧i<255
   ·rw [dif_pos h,dif_pos h,ih g s _ (by omega) (by omega)]
   ·rw [dif_neg h,dif_neg h]
def formS(t:Int):ByteArray:=
 if t=1 then⟨#[98,98,98,98]⟩
 else if t=2∨t=5∨t=12∨t=39 then⟨#[110]⟩
 else if t=6 then⟨#[110,110,98,98,98,98,98,98,98,98,98,98,98,98,98,98,98,98,98,98,98,98]⟩
 else if t=13 then⟨#[116,116]⟩
 else if t=15 then⟨#[98,98,110]⟩
 else if t=16 then⟨#[115]⟩
 else if t=28 then⟨#[98,98,98,98,98,98,98,98,98,98,98,98,98,98,98,98]⟩
 else if t=33 then⟨#[98,98,98,98,98,98,110]⟩
 else if t=35 then⟨#[98,98,98,98,116,116,116,110]⟩
 else if t=47 then⟨#[110,109]⟩
 else if t=257 then⟨#[98,99]⟩
 else⟨#[42]⟩
end Go.Proofs.YtmdinnjimioffaaGreat.Dt
namespace Go.Proofs.YtmdinnjimioffaaGreat
open Go.RowKit
set_option linter.unusedVariables false
def mapF:Nat->Int->ByteArray->Bool
 |0,_,_=>true
 |f+1,last,s=>
  if s.size=0 then true
  else if h:2<=s.size then
   if h2:last<(s[0].toNat:Int)∧1<=s[1].toNat∧s[1].toNat<=32∧s[1].toNat+2<=s.size then
    if s[s[1].toNat+1].toNat=0 then false else mapF f (s[0].toNat:Int) (s.extract (s[1].toNat+2) s.size)
   else false
  else false
theorem mapF_enough:∀ (f g:Nat) (last:Int) (s:ByteArray),s.size<f->s.size<g->mapF f last s=mapF g last s:=by
 intro f
 induction f with
 |zero=>intro g last s hf;omega
 |succ f ih=>
  intro g last s hf hg
  cases g with
  |zero=>omega
  |succ g=>
   rw [mapF,mapF]
   by_cases h0:s.size=0
   ·rw [if_pos h0,if_pos h0]
   rw [if_neg h0,if_neg h0]
   by_cases h:2<=s.size
   ·rw [dif_pos h,dif_pos h]
    by_cases h2:last<(s[0].toNat:Int)∧1<=s[1].toNat∧s[1].toNat<=32∧s[1].toNat+2<=s.size
    ·rw [dif_pos h2,dif_pos h2]
     by_cases h3:s[s[1].toNat+1].toNat=0
     ·rw [if_pos h3,if_pos h3]
     ·rw [if_neg h3,if_neg h3];have he:(s.extract (s[1].toNat+2) s.size).size=s.size-(s[1].toNat+2):=by simp
      exact ih g _ _ (by omega) (by omega)
    ·rw [dif_neg h2,dif_neg h2]
   ·rw [dif_neg h,dif_neg h]
def mapS(s:ByteArray):Bool:=mapF (s.size+1) (-1) s
theorem map_end{f:Nat}{last:Int}{s:ByteArray}(h:s.size=0):mapF (f+1) last s=true:=by rw [mapF,if_pos h]
theorem map_one{f:Nat}{last:Int}{s:ByteArray}(h:s.size=1):mapF (f+1) last s=false:=by rw [mapF,if_neg (by omega),dif_neg (by omega)]
theorem map_no{f:Nat}{last:Int}{s:ByteArray}(h:2<=s.size)(h2:¬(last<(s[0].toNat:Int)∧1<=s[1].toNat∧s[1].toNat<=32∧s[1].toNat+2<=s.size)):mapF (f+1) last s=false:=by
 rw [mapF,if_neg (by omega),dif_pos h,dif_neg h2]
theorem map_zero{f:Nat}{last:Int}{s:ByteArray}(h:2<=s.size)(h2:last<(s[0].toNat:Int)∧1<=s[1].toNat∧s[1].toNat<=32∧s[1].toNat+2<=s.size)(h3:(s[s[1].toNat+1]'(by omega)).toNat=0):mapF (f+1) last s=false:=by
 rw [mapF,if_neg (by omega),dif_pos h,dif_pos h2,if_pos h3]
theorem map_step{last:Int}{s:ByteArray}(h:2<=s.size)(h2:last<(s[0].toNat:Int)∧1<=s[1].toNat∧s[1].toNat<=32∧s[1].toNat+2<=s.size)(h3:(s[s[1].toNat+1]'(by omega)).toNat≠0):
 mapF (s.size+1) last s=mapF ((s.extract (s[1].toNat+2) s.size).size+1) (s[0].toNat:Int) (s.extract (s[1].toNat+2) s.size):=by
 rw [mapF,if_neg (by omega),dif_pos h,dif_pos h2,if_neg h3];have he:(s.extract (s[1].toNat+2) s.size).size=s.size-(s[1].toNat+2):=by simp
 exact mapF_enough _ _ _ _ (by omega) (by omega)
theorem not_empty{s:ByteArray}(h:0<s.size):(s.toList==[])=false∧(s.toList != [])=true:=by
 have:s.toList≠[]:=by
  rw [ByteArray.toList_eq];intro e;have h9:=congrArg List.length e;rw [Array.length_toList] at h9;have h8:s.size=0:=h9;omega
 simp [this]
theorem beq_empty{s:ByteArray}(h:s.size=0):(s.toList==[])=true∧(s.toList != [])=false:=by
 have:s.toList=[]:=List.length_eq_zero_iff.1 (by rw [Nm.tl_len];exact h);simp [this]
end Go.Proofs.YtmdinnjimioffaaGreat
