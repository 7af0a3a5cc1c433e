import Derived.Test.YtcihkbojmbfmmaaGreatDoorJCzM
import Derived.Test.YtcihkbojmbfmmaaGreatDoorJMath
import Derived.Deep.WholeRow
import Derived.Test.YtcihkbojmbfmmaaGreatDoorRows
import Derived.WalkSpells
import Derived.WalkLawsBesides
import Derived.RegionTactic
import Derived.BigRegion
import Derived.Deep.OwnRows
import Derived.OpenShut
import Derived.Laws.IdiomCopy
import Derived.Laws.CopyOwn
namespace Go.Proofs.YtcihkbojmbfmmaaGreatDoor
open Go.RowKit
set_option linter.unusedVariables false
theorem KL_small:∀ n∈KL,n<4294967296:=by decide
theorem KW_at{i:Nat}(h:i<64):(KL.map fun n=>Value.int .u32 ((n:Nat):Int)).toArray[i]? =some (.int .u32 ((KW i).toNat:Int)):=by
 have hl:i<KL.length:=h;have h1:KL[i]? =some KL[i]:=List.getElem?_eq_getElem hl;have h2:=KL_small _ (List.getElem_mem hl)
 have h3:(KW i).toNat=KL[i]:=by
  rw [KW,h1]
  show(BitVec.ofNat 32 KL[i]).toNat=_
  rw [BitVec.toNat_ofNat];exact Nat.mod_eq_of_lt h2
 rw [h3];simp [h1]
theorem wpList_store_new{P:Program}{ops:Array Oper}{rest:List Oper}{o:Oper}{a:Act}{Q:Exit->Act->World->Prop}(w:World)(hgd:o.guard=none)(p x:Operand)(t:TypeId)(ho:o.op=.store t p x)(hdst:o.dst=none)
 (c c':Array Value) (hp:a.eval p=.pointer (some ⟨w.heap.size,0,none⟩)) (hx:a.eval x=.agg c') (hi:(P.info? t).map (·.size)=some c'.size) (hs:c.size=c'.size) (h1:c'.all (·.oneCell')=true)
 (h:wpList P ops Q rest a (w.alloc (.cells c' t))):wpList P ops Q (o::rest) a (w.alloc (.cells c t)):=
 wpList_plain hgd fun _ hK=>by
  unfold Oper.wp execOp;have hr:=run_storeAt_new (P:=P) w t c c' hi hs h1;simp only [ho,hp,hx,Sem.run_bind,Sem.run_pure,hr,Result.andThen_ok];have e:a.put o.dst undef=a:=by rw [hdst];rfl
  refine hK _ _ ?_;rw [e];exact h
theorem K_list{i:Nat}(h:i<64):(KL.map fun n=>Value.int .u32 ((n:Nat):Int))[i]'(by simpa [KL] using h)=.int .u32 ((KW i).toNat:Int):=by
 have:=KW_at h;rw [List.getElem?_toArray,List.getElem?_eq_getElem (by simpa [KL] using h)] at this;exact Option.some.inj this
set_option maxRecDepth 100000 in
set_option maxHeartbeats 800000 in
theorem l09K_any(i:Nat)(h:i<64)(w:World):
 Calls Tryz.prog 83 #[.int .i64 (i:Int)] w fun e w'=>e=.returned (.int .u32 ((KW i).toNat:Int))∧Below w.heap.size w w':=by
 have i1:(0:Int)<=(i:Int):=by omega
 have i2:(i:Int)<64:=by omega
 have hinf:(Tryz.prog.info? 127).map (·.size)=some 64:=by kernel_rfl
 have hB:=fun c=>(Below.refl w.heap.size w).alloc (Nat.le_refl _) (.cells c 127)
 go_enter Tryz.func83,Tryz.ntmps83;go_wp2_with (refine wpList_store_new w rfl (.tmp 3) (.tmp 4) 127 rfl rfl _ _ rfl rfl hinf rfl (by kernel_rfl) ?_)
 go_ret;refine⟨?_,hB _⟩;exact congrArg Ending.returned (K_list h)
theorem Tryz.infoBy:(Tryz.prog.info? 5).map (fun i=>(i.zero,i.size,i.bytes))=some (some (.int .u8 0),1,1):=by kernel_rfl
abbrev BySl(w:World)(v:Value)(l:List UInt8):Prop:=CRow w v l.length 1 (Nm.bys l)
def loopsOf:Code->List Code
 |.loop c=>[c]
 |.seq a b=>loopsOf a++loopsOf b
 |.block _ c=>loopsOf c
 |.scope c=>loopsOf c
 |.cond _ a b=>loopsOf a++loopsOf b
 |_=>[]
noncomputable def shTop:List Code:=((Tryz.f55).body.map loopsOf).getD []
noncomputable def shL1:Code:=(shTop[0]?).getD .skip
noncomputable def shL2:Code:=(shTop[1]?).getD .skip
noncomputable def shL3:Code:=(shTop[2]?).getD .skip
noncomputable def shL4:Code:=(shTop[3]?).getD .skip
noncomputable def shL5:Code:=((loopsOf shL4)[0]?).getD .skip
noncomputable def shL6:Code:=((loopsOf shL4)[1]?).getD .skip
noncomputable def shL7:Code:=((loopsOf shL4)[2]?).getD .skip
def sndS:Code->Code
 |.seq _ b=>b
 |c=>c
def fstS:Code->Code
 |.seq a _=>a
 |c=>c
def inB:Code->Code
 |.block _ c=>c
 |c=>c
noncomputable def shR37:Code:=sndS (sndS (sndS (sndS (inB (fstS (sndS shL6))))))
noncomputable def shL8:Code:=(shTop[4]?).getD .skip
theorem w_shl24(x:Wd):(x.toNat:Int)*(16777216:Int) % (4294967296:Int)=((x<<<24).toNat:Int):=w_shl x 24
theorem w_shl16(x:Wd):(x.toNat:Int)*(65536:Int) % (4294967296:Int)=((x<<<16).toNat:Int):=w_shl x 16
theorem w_shl8(x:Wd):(x.toNat:Int)*(256:Int) % (4294967296:Int)=((x<<<8).toNat:Int):=w_shl x 8
theorem w_shr3(x:Wd):(x.toNat:Int) / (8:Int)=((x>>>3).toNat:Int):=w_shr x 3
theorem w_shr10(x:Wd):(x.toNat:Int) / (1024:Int)=((x>>>10).toNat:Int):=w_shr x 10
theorem w_add4(a b c d:Wd):((a.toNat:Int)+(b.toNat:Int)+(c.toNat:Int)+(d.toNat:Int)) % (4294967296:Int)=((a+b+c+d).toNat:Int):=by
 rw [<- w_add,<- w_add,<- w_add];omega
theorem u32_wrap_any(x:Int):IntKind.u32.wrap x=x % 4294967296:=by
 simp only [IntKind.wrap,IntKind.bits,IntKind.signed];simp
theorem wr_add(x y:Wd):IntKind.u32.wrap ((x.toNat:Int)+(y.toNat:Int))=((x+y).toNat:Int):=by rw [u32_wrap_any,w_add]
theorem w_not(x:Wd):bits .xor .u32 IntKind.u32.max (x.toNat:Int)=((~~~x).toNat:Int):=by
 have h:=w_xor (BitVec.allOnes 32) x;have e:((BitVec.allOnes 32).toNat:Int)=IntKind.u32.max:=by decide
 rw [e,BitVec.allOnes_xor] at h;exact h
theorem all_rep(n:Nat):(Array.replicate n (Value.int .u32 0)).all (·.oneCell')=true:=Array.all_eq_true_iff_forall_mem.2 (fun v hv=>by rw [(Array.mem_replicate.1 hv).2];rfl)
theorem wpList_load_blk{P:Program}{ops:Array Oper}{rest:List Oper}{o:Oper}{a:Act}{w:World}{Q:Exit->Act->World->Prop}(p:Operand)(t:TypeId)(hgd:o.guard=none)(ho:o.op=.load t p)(b:Nat)(cs:Array Value)(d:TypeDesc)(hk:Blk w b cs t)
 (hp:a.eval p=.pointer (some ⟨b,0,none⟩)) (hu:P.underlying t=some d) (hd:(match d with|.struct _|.array _ _=>true|_=>false)=true) (hi:(P.info? t).map (·.size)=some cs.size)
 (h:wpList P ops Q rest (a.put o.dst (.agg cs)) w):wpList P ops Q (o::rest) a w:=
 wpList_plain hgd fun _ hK=>by
  unfold Oper.wp execOp;simp only [ho,hp,Instr.loadAt,Instr.sureAddr,Sem.run_bind,Sem.run_pure,Result.andThen_ok,run_loadVar_row w b t t cs (0,0) d hk hu hd hi];exact hK _ _ h
theorem run_results_cell{P:Program}{fn:Func}{tmps:Array Value}{w:World}{r:Nat}{t:TypeId}{p:Nat}{cs:Array Value}{n:Nat}{e:TypeId}(hf:fn.results=#[.cell r t])(ht:tmps[r]?.getD undef=.pointer (some ⟨p,0,none⟩))(hk:Blk w p cs t)
 (hu:P.underlying t=some (.array n e)) (hi:(P.info? t).map (·.size)=some cs.size):(results fn tmps).run P w=.ok (.agg cs) w:=by
 have hl:=run_loadVar_row w p t t cs (0,0) (.array n e) hk hu rfl hi;simp [results,hf,ht,asAddr,hl]
theorem Only.setRow{b:Nat}{w:World}{c:Array Value}:Only b w (w.setRow b c):=by
 refine⟨rfl,rfl,rfl,?_,fun k hk hp=>?_⟩
 ·simp [World.setRow]
 ·simp only [World.setRow];rw [Array.getElem?_modify];rw [if_neg (Ne.symm hp)]
theorem blk_setRow{b:Nat}{w:World}{c c':Array Value}{t:TypeId}(h:Blk w b c t):Blk (w.setRow b c') b c' t:=by
 show(World.setRow w b c').heap[b]? =_
 simp only [World.setRow];rw [Array.getElem?_modify,if_pos rfl,show w.heap[b]? =some (.cells c t (0,0)) from h];rfl
theorem wpList_store_blk{P:Program}{ops:Array Oper}{rest:List Oper}{o:Oper}{a:Act}{w:World}{Q:Exit->Act->World->Prop}(p x:Operand)(t:TypeId)(hgd:o.guard=none)(ho:o.op=.store t p x)(hdst:o.dst=none)(b:Nat)(c c':Array Value)(hk:Blk w b c t)
 (hp:a.eval p=.pointer (some ⟨b,0,none⟩)) (hx:a.eval x=.agg c') (hi:(P.info? t).map (·.size)=some c'.size) (hs:c.size=c'.size) (h1:c'.all (·.oneCell')=true)
 (h:∀ w',Blk w' b c' t->Only b w w'->wpList P ops Q rest a w'):wpList P ops Q (o::rest) a w:=
 wpList_plain hgd fun _ hK=>by
  unfold Oper.wp execOp;simp only [ho,hp,hx,Instr.storeAt,Instr.sureAddr,Sem.run_bind,Sem.run_pure,Result.andThen_ok,run_storeVar_row w b t t c c' hk hi hs h1];have e:a.put o.dst undef=a:=by rw [hdst];rfl
  refine hK _ _ ?_;rw [e];exact h _ (blk_setRow hk) Only.setRow
def spl(cs:Array Value):Nat->List Value->Array Value
 |_,[]=>cs
 |o,v::r=>spl (cs.setIfInBounds o v) (o+1) r
theorem spl_size:∀ (vs:List Value) (cs:Array Value) (o:Nat),(spl cs o vs).size=cs.size
 |[],_,_=>rfl
 |v::r,cs,o=>by rw [spl,spl_size r];simp
theorem blk_setCells{b:Nat}{T:TypeId}:∀ (vs:List Value) (o:Nat) (cs:Array Value) (w:World),Blk w b cs T->Blk (w.setCells b o vs) b (spl cs o vs) T
 |[],_,_,_,h=>h
 |v::r,o,cs,w,h=>blk_setCells r (o+1) _ _ (blk_set h o v)
theorem only_setCells{b:Nat}{w0:World}:∀ (vs:List Value) (o:Nat) (w:World),Only b w0 w->Only b w0 (w.setCells b o vs)
 |[],_,_,h=>h
 |v::r,o,w,h=>only_setCells r (o+1) _ h.set
def bytesV(S:ByteArray):List Value:=S.data.toList.map fun c=>.int .u8 (c.toNat:Int)
theorem run_copy_str{P:Program}(w:World)(dT sT ty elem T:TypeId)(b o dLen dCap:Nat)(S:ByteArray)(cs:Array Value)(hk:Blk w b cs T)
 (hu:P.underlying dT=some (.slice elem)) (hs:(P.info? elem).map (·.size)=some 1) (h2:S.size<=dLen) (hfit:o+S.size<=cs.size):
 (Builtin.copy_ #[dT,sT] ty #[.slice (some ⟨b,o,none⟩) dLen dCap,.string S]).run P w=.ok (goInt S.size) (w.setCells b o (bytesV S)):=by
 have hlv:(bytesV S).length=S.size:=by simp [bytesV]
 have hst:=run_storeCells_cells (P:=P) b o (bytesV S) 0 w
  (by intro j hj;rw [Nat.add_zero,blk_cell hk (o+j),Array.getElem?_eq_getElem (by omega)];rfl)
  (by intro j hj;rw [Nat.add_zero];exact blk_frozen hk _)
  (by intro v hv;simp only [bytesV,List.mem_map] at hv;obtain⟨c,_,rfl⟩:=hv;rfl)
 have hmin:Nat.min S.size dLen=S.size:=Nat.min_eq_left h2
 have hcl:((S.extract 0 S.size).data.map fun b=>(Value.int .u8 (b.toNat:Int)))=(bytesV S).toArray:=by
  have e:S.extract 0 S.size=S:=by
   apply ByteArray.ext;simp
  rw [e];apply Array.toList_inj.1;simp [bytesV]
 cases hq:P.info? elem with
 |none=>simp [hq] at hs
 |some i=>
  have hi:i.size=1:=by simpa [hq] using hs
  have hst2:(storeCells ⟨b,o,none⟩ (bytesV S)).run P w=.ok () (w.setCells b o (bytesV S)):=by simpa using hst
  have hsz2:∀ W:World,(Builtin.firstCells 1 S.size (.string S)).run P W=.ok (bytesV S).toArray W:=fun W=>by rw [<- hcl];rfl
  have hlen:∀ W:World,(Builtin.lenOf (.string S)).run P W=.ok S.size W:=fun W=>rfl
  simp [Builtin.copy_,run_underlying hu,hlen,hmin,sizeOf,typeInfo,hq,hi,hsz2,hst2]
theorem step_copy_str{P:Program}{ops:Array Oper}{o:Oper}{a:Act}{w:World}{K:Act->World->Prop}{Q:Exit->Act->World->Prop}{E:Prop}(hgd:o.guard=none)(d s:Operand)(dT sT:TypeId)
 (ho:o.op=.call {callee:=.builtin .copy,args:=#[d,s],argTypes:=#[dT,sT]}) (elem:TypeId) (hu:P.underlying dT=some (.slice elem)) (hsz:(P.info? elem).map (·.size)=some 1)
 (b off dLen dCap:Nat) (hd:a.eval d=.slice (some ⟨b,off,none⟩) dLen dCap) (S:ByteArray) (hs:a.eval s=.string S) (cs:Array Value) (T:TypeId) (hk:Blk w b cs T) (h2:S.size<=dLen) (hfit:off+S.size<=cs.size)
 (h:∀ w',Blk w' b (spl cs off (bytesV S)) T->Only b w w'->K (a.put o.dst (goInt S.size)) w'):
 if Region.wanted o (yielded ops a.tmps)=true then Oper.wp P o a w K Q else E:=by
 have hw:Region.wanted o (yielded ops a.tmps)=true:=by simp [Region.wanted,hgd]
 rw [if_pos hw];have hrun:=run_copy_str (P:=P) w dT sT o.type elem T b off dLen dCap S cs hk hu hsz h2 hfit;unfold Oper.wp;simp [execOp,ho,resolve,invoke,builtin,hd,hs,hrun,Result.andThen]
 exact h _ (blk_setCells _ _ _ _ hk) (only_setCells _ _ _ (Only.refl _ _))
theorem wpList_copy_blk{P:Program}{w:World}{ops:Array Oper}{rest:List Oper}{o:Oper}{a:Act}{Q:Exit->Act->World->Prop}(hgd:o.guard=none)(d s:Operand)(dT sT:TypeId)
 (ho:o.op=.call {callee:=.builtin .copy,args:=#[d,s],argTypes:=#[dT,sT]}) (elem:TypeId) (hu:P.underlying dT=some (.slice elem)) (hsz:(P.info? elem).map (·.size)=some 1)
 (g off dLen dCap:Nat) (sp:Option Addr) (sLen sCap:Nat) (hd:a.eval d=.slice (some ⟨g,off,none⟩) dLen dCap) (hs:a.eval s=.slice sp sLen sCap)
 (cur:Array Value) (t:TypeId) (hg:Blk w g cur t) (cs:List Value) (hn:cs.length=Nat.min sLen dLen)
 (hsrc:0<cs.length->∃ ad,sp=some ad∧∀ j v,cs[j]? =some v->w.cell? (ad.add j)=some v) (hfit:off+cs.length<=cur.size) (h1:∀ v∈cs,v.oneCell'=true)
 (h:∀ w',Blk w' g (splice cur.toList off cs).toArray t->Only g w w'->wpList P ops Q rest (a.put o.dst (goInt cs.length)) w'):wpList P ops Q (o::rest) a w:=by
 by_cases h0:cs.length=0
 ·obtain rfl:cs=[]:=List.eq_nil_of_length_eq_zero h0;refine wpList_copy_nothing hgd d s dT sT ho elem hu hsz _ sp dLen dCap sLen sCap hd hs (by simpa using hn.symm) ?_;exact h w (by simpa [splice] using hg) (Only.refl _ _)
 ·obtain⟨ad,rfl,hsrc2⟩:=hsrc (by omega);refine wpList_copy_own hgd d s dT sT ho elem hu hsz g off dLen dCap ad sLen sCap hd hs cur t hg cs hn hsrc2 hfit h1 ?_;exact h _ (blk_setRow hg) Only.setRow
theorem wpList_load_glob{P:Program}{ops:Array Oper}{rest:List Oper}{o:Oper}{a:Act}{w:World}{Q:Exit->Act->World->Prop}(p:Operand)(t:TypeId)(hgd:o.guard=none)(ho:o.op=.load t p)(b:Nat)(cs:Array Value)(t0:TypeId)(fr:Nat×Nat)(n:Nat)(e:TypeId)(hk:w.heap[b]? =some (.cells cs t0 fr))
 (hp:a.eval p=.pointer (some ⟨b,0,none⟩)) (hu:P.underlying t=some (.array n e)) (hi:(P.info? t).map (·.size)=some cs.size)
 (h:wpList P ops Q rest (a.put o.dst (.agg cs)) w):wpList P ops Q (o::rest) a w:=
 wpList_plain hgd fun _ hK=>by
  unfold Oper.wp execOp;simp only [ho,hp,Instr.loadAt,Instr.sureAddr,Sem.run_bind,Sem.run_pure,Result.andThen_ok,run_loadVar_row w b t0 t cs fr (.array n e) hk hu rfl hi];exact hK _ _ h
end Go.Proofs.YtcihkbojmbfmmaaGreatDoor
