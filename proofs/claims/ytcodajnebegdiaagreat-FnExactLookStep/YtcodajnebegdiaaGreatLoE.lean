import Derived.Test.YtcodajnebegdiaaGreatJMakeOk
import Derived.Test.YtcodajnebegdiaaGreatJLoC
import Derived.Test.YtcodajnebegdiaaGreatJGrT
import Derived.Test.YtcodajnebegdiaaGreatJFnY
import Derived.Test.YtcodajnebegdiaaGreatJFsF
namespace Go.Proofs.YtcodajnebegdiaaGreat
open Go.RowKit
set_option linter.unusedVariables false
theorem ZFr.setR{B g:Nat}{v:Value}{ps:List Zp}(hg:g<B):∀ (vs:List Value) (i:Nat) (W:World),ZFr W B v ps->ZFr (setAll W g i vs) B v ps
 |[],_,_,h=>h
 |y::vs,i,W,h=>ZFr.setR hg vs (i+1) _ (h.low (fun k h1 _=>Below.heap_setCell _ _ _ k (fun e=>by have:k=g:=e;omega)) (KeepsWalks.setCell W _ y).size)
theorem cutZ_size{o name:ByteArray}:∀ (ss:List Sz) (b:ByteArray),b.size<=1048576->(∀ s∈ss,s.own.size<=1048576)->(ss.foldl (cutStep o name) b).size<=1048576
 |[],b,h,_=>h
 |s::ss,b,h,hs=>by
  rw [List.foldl_cons];refine cutZ_size ss _ ?_ (fun x hx=>hs x (List.mem_cons_of_mem _ hx));rw [cutStep];split
  ·exact hs s List.mem_cons_self
  ·exact h
theorem cloZ_sub(th:ByteArray->Bool):∀ (y:List ByteArray),∃ k,cloZ th y=y.drop k
 |[]=>⟨0,rfl⟩
 |x::xs=>by
  rw [cloZ];split
  ·exact⟨0,rfl⟩
  ·obtain⟨k,e⟩:=cloZ_sub th xs;exact⟨k+1,by rw [e];rfl⟩
theorem nd_size{ps:List Zp}{o name:ByteArray}{lab:List ByteArray}(hn:Nm.split name=some lab)(hf:∀ p∈ps,p.1.own.size<=1048576):(ndZ ps o name).clo.size<=255∧(ndZ ps o name).cut.size<=1048576:=by
 rw [ndZ];split
 ·refine⟨?_,cutZ_size _ _ (by decide) (fun s hs=>?_)⟩
  ·obtain⟨k,e⟩:=cloZ_sub (thZ ps o) ((Nm.split name).getD [])
   show(joB (cloZ (thZ ps o) ((Nm.split name).getD []))).size<=255
   rw [e,hn];exact jo_size ((gl_split hn).drop k)
  ·obtain⟨p,hp,rfl⟩:=List.mem_map.1 hs;exact hf p hp
 ·exact⟨by decide,by decide⟩
theorem nd_kinds(ps:List Zp)(o name:ByteArray):(ndZ ps o name).kd=0∨((ndZ ps o name).kd=4∨(ndZ ps o name).kd=5)∨((ndZ ps o name).kd=3∨(ndZ ps o name).kd=2)∨(ndZ ps o name).kd=1:=by
 rw [ndZ];split
 ·show kdZ _ _ _ _=0∨(kdZ _ _ _ _=4∨kdZ _ _ _ _=5)∨(kdZ _ _ _ _=3∨kdZ _ _ _ _=2)∨kdZ _ _ _ _=1
  rw [kdZ];split
  ·split
   ·exact .inr (.inl (.inl rfl))
   ·exact .inr (.inl (.inr rfl))
  ·split
   ·exact .inr (.inr (.inl (.inl rfl)))
   ·split
    ·exact .inr (.inr (.inl (.inr rfl)))
    ·exact .inr (.inr (.inr rfl))
 ·exact .inl rfl
def SfP(s:Stp)(w:World)(e:Ending)(w':World):Prop:=∃ v ps,e=.returned (.agg #[.int .i64 s.kd,v,.bool s.wild,.string s.tgt])∧List.map (·.1) ps=s.ss∧ZFr w' w.heap.size v ps∧Below w.heap.size w w'
theorem nds_mem{ps qs:List Zp}{name:ByteArray}(e:qs.map (·.1)=ndsZ (ps.map (·.1)) name){P:Sz->Prop}(h:∀ p∈ps,P p.1):∀ q∈qs,P q.1:=by
 intro q hq;have hm:q.1∈qs.map (·.1):=List.mem_map.2 ⟨q,hq,rfl⟩;rw [e,ndsZ] at hm;obtain⟨p,hp,e2⟩:=List.mem_map.1 (List.mem_filter.1 hm).1;rw [<- e2];exact h p hp
theorem nds_len{ps qs:List Zp}{name:ByteArray}(e:qs.map (·.1)=ndsZ (ps.map (·.1)) name):qs.length<=ps.length:=by
 have h1:=congrArg List.length e;rw [List.length_map,ndsZ] at h1;have h2:=List.length_filter_le (fun s=>sameS s.own name) (ps.map (·.1));rw [List.length_map] at h2;omega
set_option maxRecDepth 100000 in
set_option maxHeartbeats 3200000 in
theorem l07Step_any(o name:ByteArray)(lab:List ByteArray)(q:Int)(v:Value)(ps:List Zp)(w:World)(h:ZRow w v ps)(hl:ps.length<=1048576)(hf:∀ p∈ps,p.1.own.size<=1048576∧p.1.da.length<=1048576∧∀ x∈p.1.da,x.size<=1048576)(hn:Nm.split name=some lab)(ho:o.size<=maxLen)(hex:isUnderS name o=true->∃ j,j<=lab.length∧thZ ps o (joB (lab.drop j))=true)(hne:∀ p∈ps,0<p.1.da.length):
 Calls Tryz.prog 22 #[.agg #[.string o,v],.string name,.int .i64 q] w (SfP (lkZ ps o name q) w):=by
 obtain⟨va,vc,rfl⟩:∃ va vc,v=.slice va ps.length vc:=by obtain⟨⟨_,a,c,e,_⟩,_⟩:=h;exact⟨a,c,e⟩
 have hns:name.size<=255:=by have:=Nm.split_size hn;have:=(gl_split hn).2;omega
 have hnm:name.size<=maxLen:=by unfold maxLen;omega
 obtain⟨hcl,hcu⟩:=nd_size (o:=o) hn (fun p hp=>(hf p hp).1);have hkd:=nd_kinds ps o name;have b0:=((Below.refl w.heap.size w).alloc (Nat.le_refl _) (.cells #[.string o,.slice va ps.length vc] 32)).alloc (by simp) (.cells st0 28);have k0:=blk_alloc (blk_new w #[.string o,.slice va ps.length vc] 32) (.cells st0 28);have kR:=blk_new (w.alloc (.cells #[.string o,.slice va ps.length vc] 32)) st0 28;rw [World.size_alloc] at kR;have HZ:=Nm.hide (fun W (hW:Below w.heap.size w W)=>h.below hW);have hnd:=l06Node_any o name lab _ ps _ (HZ.out _ b0) hl (fun p hp=>(hf p hp).1) hn ho hex;have HFd:=Nm.hide (fun W (hW:Below w.heap.size w W) (x:ByteArray) (t:Int) (hx:x.size<=1048576)=>l06Find_any o x t _ ps W (HZ.out W hW) hl (fun p hp=>⟨(hf p hp).1,(hf p hp).2.1⟩) (by unfold maxLen;omega));have HNs:=Nm.hide (fun W (hW:Below w.heap.size w W) (x:ByteArray) (hx:x.size<=1048576)=>l07NodeSets_any o x _ ps W (HZ.out W hW) hl (fun p hp=>⟨(hf p hp).1,(hf p hp).2.1⟩) (by unfold maxLen;omega));have HTh:=Nm.hide (fun W (hW:Below w.heap.size w W) (x:ByteArray) (hx:x.size<=1048576)=>l06There_any o x _ ps W (HZ.out W hW) (fun p hp=>(hf p hp).1) (by unfold maxLen;omega) ho);have HFF:=Nm.hide (fun p hp=>(hf p hp).2.2);have HNE:=Nm.hide hne;obtain⟨S,HS⟩:∃ S,Hid (S=lkZ ps o name q):=⟨_,rfl⟩;rw [<- HS.out]
 replace HS:Hid (S=lkN (ndZ ps o name) (ps.map (·.1)) (thZ ps o) name q):=HS
 generalize ndZ ps o name=N at*;obtain⟨kd,clo,cut,ty⟩:=N;simp only at hkd hcl hcu
 obtain⟨W0,hW0⟩:∃ W0,(w.alloc (.cells #[.string o,.slice va ps.length vc] 32)).alloc (.cells st0 28)=W0:=⟨_,rfl⟩;rw [hW0] at b0 k0 kR hnd;have r0:=fun i=>blk_cell k0 i
 clear h hf hex hne ho hnm;go_enter Tryz.func22,Tryz.ntmps22;go_wp2_with fail
 refine hnd.mono ?_;rintro e w1 ⟨u,rfl,o1,b1⟩;obtain⟨ua,uc,hu⟩:=own_sl o1;subst hu;simp only
 have cA:=(Below.refl w1.heap.size w1).alloc (Nat.le_refl _) (.cells #[.int .i64 kd,.string clo,.string cut,.slice ua ty.length uc] 74);have c1:=Nm.below_two b1 cA;have bw1:=Nm.below_two b0 c1;have kZ1:=blk_below k0 c1;have kR1:=blk_below kR c1;have kN1:=blk_new w1 #[.int .i64 kd,.string clo,.string cut,.slice ua ty.length uc] 74;have sA:(w1.alloc (.cells #[.int .i64 kd,.string clo,.string cut,.slice ua ty.length uc] 74)).heap.size=w1.heap.size+1:=by simp
 have sR:w.heap.size+1<w1.heap.size:=blk_lt (blk_below kR b1);obtain⟨W1,hW1⟩:∃ W1,w1.alloc (.cells #[.int .i64 kd,.string clo,.string cut,.slice ua ty.length uc] 74)=W1:=⟨_,rfl⟩;rw [hW1] at c1 bw1 kZ1 kR1 kN1 sA;have rZ:=fun i=>blk_cell kZ1 i
 have rN:=fun i=>blk_cell kN1 i
 clear b1 cA k0 kR b0 r0 hnd o1
 rcases hkd with rfl|hk|hk|rfl
 ·have HE:Hid (S=stp 1):=by show _=_;rw [HS.out,lkN_0 rfl]
  have kX:=setAll_new (st4 1 (.slice none 0 0) false ⟨#[]⟩) kR1 rfl;have HX:Hid (List.map (·.1) ([]:List Zp)=[]∧ZFr (setAll W1 (w.heap.size+1) 0 (st4 1 (.slice none 0 0) false ⟨#[]⟩)) w.heap.size (.slice none 0 0) []∧Below w.heap.size w (setAll W1 (w.heap.size+1) 0 (st4 1 (.slice none 0 0) false ⟨#[]⟩))):=⟨rfl,ZFr.nil,below_setR (by omega) _ 0 _ bw1⟩;have rk:=fun i=>blk_cell kR1 i
  have fk:=fun i=>blk_frozen kR1 i
  clear HS kR1 kZ1 kN1;simp only [setAll,Nat.reduceAdd,Nat.zero_add] at kX HX;have rX:=fun i=>blk_cell kX i
  clear kX;go_wp2_with fail
  refine bodyPost_ret (v:=.agg #[.int .i64 1,(.slice none 0 0),.bool false,.string ⟨#[]⟩]) ?_ rfl ⟨(.slice none 0 0),_,by rw [HE.out],by rw [HE.out];exact HX.out.1,HX.out.2.1,HX.out.2.2⟩;simp [results,Tryz.f22,go_sem,rX]
 ·have HE:Hid (S=⟨2,[(fndZ (ps.map (·.1)) cut 2).getD sz0],false,⟨#[]⟩⟩):=by show _=_;rw [HS.out,lkN_4 hk]
  have hfd:=HFd.out _ bw1 cut 2 hcu
  have hfd':Calls Tryz.prog 41 #[.agg #[.string o,.slice va ps.length vc],.string cut,.int .i64 2] W1 fun e w'=>∃ s v b,Hid (s=(fndZ (ps.map (·.1)) cut 2).getD sz0)∧e=.returned (.tuple #[.agg #[.string (Sz.own s),.int .i64 s.ty,.int .i64 s.tt,v],.bool b])∧w'.ownsRow W1.heap.size 9 1 v s.da.length (s.da.map Value.string)∧Below W1.heap.size W1 w':=hfd.mono (by
   rintro e w' ⟨v,h1,h2,h3⟩
   exact⟨_,v,_,rfl,h1,h2,h3⟩)
  have key:∀ (x:Int),(x=4∨x=5)->x=kd->True:=fun _ _ _=>trivial
  clear key
  rcases hk with rfl|rfl
  all_goals
   clear hfd HS HFd HNs HTh kN1;go_wp2_with fail
   refine hfd'.mono ?_;rintro e w2 ⟨s,v2,fb,hs,rfl,o2,b2⟩;obtain⟨da,dc,rfl⟩:=own_sl o2;rw [<- hs.out] at HE;have cA:=(Below.refl w2.heap.size w2).alloc (Nat.le_refl _) (.cells #[.string s.own,.int .i64 s.ty,.int .i64 s.tt,.slice da s.da.length dc] 76);have z2:=zown_one (s:=s) (own_below o2 cA) (show W1.heap.size<=_ from Nat.le_trans b2.size cA.size);have cB:=(Below.refl (w2.alloc (.cells #[.string s.own,.int .i64 s.ty,.int .i64 s.tt,.slice da s.da.length dc] 76)).heap.size (w2.alloc (.cells #[.string s.own,.int .i64 s.ty,.int .i64 s.tt,.slice da s.da.length dc] 76))).alloc (Nat.le_refl _) (.cells #[.string s.own,.int .i64 s.ty,.int .i64 s.tt,.slice da s.da.length dc] 76);have c3:=Nm.below_two (Nm.below_two b2 cA) cB;have kR3:=blk_below kR1 c3;have bw3:=Nm.below_two bw1 c3;have kS:=blk_new w2 #[.string s.own,.int .i64 s.ty,.int .i64 s.tt,.slice da s.da.length dc] 76;have rS:=fun i=>blk_cell kS i
   have z3:=z2.fr;rw [World.size_alloc] at z3;have kX:=setAll_new (st4 2 (.slice (some ⟨w2.heap.size+1,0,none⟩) 1 1) false ⟨#[]⟩) kR3 rfl;have HX:Hid (List.map (·.1) [(s,Value.slice da s.da.length dc)]=[s]∧ZFr (setAll ((w2.alloc (.cells #[.string s.own,.int .i64 s.ty,.int .i64 s.tt,.slice da s.da.length dc] 76)).alloc (.cells #[.string s.own,.int .i64 s.ty,.int .i64 s.tt,.slice da s.da.length dc] 76)) (w.heap.size+1) 0 (st4 2 (.slice (some ⟨w2.heap.size+1,0,none⟩) 1 1) false ⟨#[]⟩)) w.heap.size (.slice (some ⟨w2.heap.size+1,0,none⟩) 1 1) [(s,Value.slice da s.da.length dc)]∧Below w.heap.size w (setAll ((w2.alloc (.cells #[.string s.own,.int .i64 s.ty,.int .i64 s.tt,.slice da s.da.length dc] 76)).alloc (.cells #[.string s.own,.int .i64 s.ty,.int .i64 s.tt,.slice da s.da.length dc] 76)) (w.heap.size+1) 0 (st4 2 (.slice (some ⟨w2.heap.size+1,0,none⟩) 1 1) false ⟨#[]⟩))):=⟨rfl,(ZFr.setR (by omega) _ 0 _ z3).base (by omega),below_setR (by omega) _ 0 _ bw3⟩;have rk:=fun i=>blk_cell kR3 i
   have fk:=fun i=>blk_frozen kR3 i
   clear hfd' z2 z3 kS cA cB c3 kR3 kR1 kZ1 o2 b2 bw1 hs;simp only [setAll,Nat.reduceAdd,Nat.zero_add] at kX HX;have rX:=fun i=>blk_cell kX i
   clear kX;go_wp2_with fail
   refine bodyPost_ret (v:=.agg #[.int .i64 2,(.slice (some ⟨w2.heap.size+1,0,none⟩) 1 1),.bool false,.string ⟨#[]⟩]) ?_ rfl ⟨(.slice (some ⟨w2.heap.size+1,0,none⟩) 1 1),_,by rw [HE.out],by rw [HE.out];exact HX.out.1,HX.out.2.1,HX.out.2.2⟩;simp [results,Tryz.f22,go_sem,rX]
 ·have HE:Hid (S=atZ (ndsZ (ps.map (·.1)) name) q):=by show _=_;rw [HS.out,lkN_3 hk]
  have hns2:=HNs.out _ bw1 name (by omega)
  rcases hk with rfl|rfl
  all_goals
   clear HS HFd HNs HTh kN1;go_wp2_with fail
   refine hns2.mono ?_;rintro e w2 ⟨v2,qs,rfl,e2,z2,b2⟩;have hat:=l07At_any v2 qs q w2 z2.zrow (by have:=nds_len e2;omega) (fun p hp _=>nds_mem e2 (P:=fun s=>0<s.da.length) HNE.out p hp);rw [e2,<- HE.out] at hat;have hzf:=Nm.hide z2.fr;obtain⟨da,dc,rfl⟩:=own_sl z2.outer;clear hns2 e2 z2;go_wp2_with fail
   refine hat.mono ?_;rintro e w3 ⟨v3,ps3,rfl,e3,f3,b3⟩;obtain⟨ea,ec,rfl⟩:∃ a c,v3=.slice a ps3.length c:=by(obtain⟨⟨_,a,c,e,_⟩,_⟩:=f3 _ (hzf.out.below b3).read;exact⟨a,c,e⟩)
   have c3:=Nm.below_two b2 b3;have kR3:=blk_below kR1 c3;have bw3:=Nm.below_two bw1 c3;have z3:ZFr w3 W1.heap.size (.slice ea ps3.length ec) ps3:=fun X hX=>f3 X (hzf.out.below b3 X hX)
   have kX:=setAll_new (st4 S.kd (.slice ea ps3.length ec) S.wild S.tgt) kR3 rfl;have HX:Hid (List.map (·.1) ps3=S.ss∧ZFr (setAll w3 (w.heap.size+1) 0 (st4 S.kd (.slice ea ps3.length ec) S.wild S.tgt)) w.heap.size (.slice ea ps3.length ec) ps3∧Below w.heap.size w (setAll w3 (w.heap.size+1) 0 (st4 S.kd (.slice ea ps3.length ec) S.wild S.tgt))):=⟨e3,(ZFr.setR (by omega) _ 0 _ z3).base (by omega),below_setR (by omega) _ 0 _ bw3⟩;have rk:=fun i=>blk_cell kR3 i
   have fk:=fun i=>blk_frozen kR3 i
   clear hat z3 f3 e3 c3 kR3 kR1 kZ1 b2 b3 bw1 hzf HE;simp only [setAll,Nat.reduceAdd,Nat.zero_add] at kX HX;have rX:=fun i=>blk_cell kX i
   clear kX;go_wp2_with fail
   refine bodyPost_ret (v:=.agg #[.int .i64 S.kd,.slice ea ps3.length ec,.bool S.wild,.string S.tgt]) ?_ rfl ⟨.slice ea ps3.length ec,_,rfl,HX.out.1,HX.out.2.1,HX.out.2.2⟩;simp [results,Tryz.f22,go_sem,rX]
 ·have hfd:=HFd.out _ bw1 clo 39 (by omega)
  cases hfz:fndZ (ps.map (·.1)) clo 39 with
  |some s=>
   have HE:Hid (S=tailS s (replS name clo (hdB s.da))):=by show _=_;rw [HS.out,lkN_y rfl hfz]
   obtain⟨d0,rest,hda,hd0⟩:∃ d0 rest,s.da=d0::rest∧d0.size<=1048576:=by
    rw [fndZ] at hfz;obtain⟨p,hp,rfl⟩:=List.mem_map.1 (List.mem_of_find?_eq_some hfz);have h0:=HNE.out p hp
    cases hx:p.1.da with
    |nil=>rw [hx] at h0;simp at h0
    |cons x r=>exact⟨x,r,rfl,HFF.out p hp x (by rw [hx];simp)⟩
   have hdB0:hdB s.da=d0:=by rw [hda];rfl
   rw [hdB0] at HE
   have hfd':Calls Tryz.prog 41 #[.agg #[.string o,.slice va ps.length vc],.string clo,.int .i64 39] W1 fun e w'=>∃ v,e=.returned (.tuple #[.agg #[.string s.own,.int .i64 s.ty,.int .i64 s.tt,v],.bool true])∧w'.ownsRow W1.heap.size 9 1 v (rest.length+1) ((d0::rest).map Value.string)∧Below W1.heap.size W1 w':=hfd.mono (by
    rintro e w' ⟨v,h1,h2,h3⟩;rw [hfz] at h1 h2;simp only [Option.getD_some] at h2;rw [hda] at h2
    exact⟨v,h1,h2,h3⟩)
   have hrp:=fun W=>specReplaceTail_any name clo d0 W (by unfold maxLen;omega) (by unfold maxLen;omega) (by unfold maxLen;omega)
   generalize replS name clo d0=RR at*;obtain⟨rt,rc⟩:=RR;simp only at hrp
   clear hfd HS HFd HNs HTh hfz hdB0;go_wp2_with fail
   refine hfd'.mono ?_;rintro e w2 ⟨v2,rfl,o2,b2⟩;obtain⟨dg,dc,rfl⟩:=ownsRow_succ o2
   have cD:w2.cell? ⟨dg,0,none⟩=some (.string d0):=by
    rw [o2.cellAt 0 (by omega)];rfl
   have cA:=(Below.refl w2.heap.size w2).alloc (Nat.le_refl _) (.cells #[.string s.own,.int .i64 s.ty,.int .i64 s.tt,.slice (some ⟨dg,0,none⟩) (rest.length+1) dc] 76);have kS:=blk_new w2 #[.string s.own,.int .i64 s.ty,.int .i64 s.tt,.slice (some ⟨dg,0,none⟩) (rest.length+1) dc] 76;have c2:=Nm.below_two b2 cA;have bw2:=Nm.below_two bw1 c2;have kR2:=blk_below kR1 c2;have kN2:=blk_below kN1 c2;have cD2:(w2.alloc (.cells #[.string s.own,.int .i64 s.ty,.int .i64 s.tt,.slice (some ⟨dg,0,none⟩) (rest.length+1) dc] 76)).cell? ⟨dg,0,none⟩=some (.string d0):=(cA.cell (p:=⟨dg,0,none⟩) (World.block_lt_of_cell? w2 _ cD)).trans cD;have o3:=own_below o2 cA;obtain⟨W2,hW2⟩:∃ W2,w2.alloc (.cells #[.string s.own,.int .i64 s.ty,.int .i64 s.tt,.slice (some ⟨dg,0,none⟩) (rest.length+1) dc] 76)=W2:=⟨_,rfl⟩;rw [hW2] at kS bw2 kR2 kN2 cD2 o3;have hS:Hid (∀ X,Below W2.heap.size W2 X->(Blk X w1.heap.size #[.int .i64 1,.string clo,.string cut,.slice ua ty.length uc] 74∧Blk X w2.heap.size #[.string s.own,.int .i64 s.ty,.int .i64 s.tt,.slice (some ⟨dg,0,none⟩) (rest.length+1) dc] 76)∧X.cell? ⟨dg,0,none⟩=some (.string d0)):=fun X hX=>⟨⟨blk_below kN2 hX,blk_below kS hX⟩,(hX.cell (p:=⟨dg,0,none⟩) (World.block_lt_of_cell? _ _ cD2)).trans cD2⟩
   have bd:=(Below.refl W2.heap.size W2).drew;have sW:W1.heap.size<=W2.heap.size:=by rw [<- hW2];exact c2.size
   have j1:(0:Int)<((rest.length+1:Nat):Int):=by omega
   clear hfd' cD cD2 cA c2 b2 o2 kZ1 rZ rN bw1 kN1 kR1;go_upto_region 14 with fail
   refine wp_region_last (fun X=>(Blk X w1.heap.size #[.int .i64 1,.string clo,.string cut,.slice ua ty.length uc] 74∧Blk X w2.heap.size #[.string s.own,.int .i64 s.ty,.int .i64 s.tt,.slice (some ⟨dg,0,none⟩) (rest.length+1) dc] 76)∧X.cell? ⟨dg,0,none⟩=some (.string d0)) 1000 (by kernel_rfl) (hS.out _ bd) (fun hHeld=>?_);refine tkL (i:=0) (v:=?_) rfl ?_ ?_;rotate_left 1
   ·(rintro W ⟨⟨s1,s2⟩,s3⟩;have ss1:=(fun i=>blk_cell s1 i);have ss2:=(fun i=>blk_cell s2 i);go_simp;try (with_reducible rfl))
   refine tkL (i:=1) (v:=?_) rfl ?_ ?_;rotate_left 1
   ·(rintro W ⟨⟨s1,s2⟩,s3⟩;have ss1:=(fun i=>blk_cell s1 i);have ss2:=(fun i=>blk_cell s2 i);go_simp;try (with_reducible rfl))
   refine tkL (i:=2) (v:=?_) rfl ?_ ?_;rotate_left 1
   ·(rintro W ⟨⟨s1,s2⟩,s3⟩;have ss1:=(fun i=>blk_cell s1 i);have ss2:=(fun i=>blk_cell s2 i);go_simp;try (with_reducible rfl))
   refine tkL (i:=3) (v:=?_) rfl ?_ ?_;rotate_left 1
   ·(rintro W ⟨⟨s1,s2⟩,s3⟩;have ss1:=(fun i=>blk_cell s1 i);have ss2:=(fun i=>blk_cell s2 i);go_simp;try (with_reducible rfl))
   refine tkL (i:=4) (v:=?_) rfl ?_ ?_;rotate_left 1
   ·(rintro W ⟨⟨s1,s2⟩,s3⟩;have ss1:=(fun i=>blk_cell s1 i);have ss2:=(fun i=>blk_cell s2 i);go_simp;try (with_reducible rfl))
   refine tkL (i:=5) (v:=?_) rfl ?_ ?_;rotate_left 1
   ·(rintro W ⟨⟨s1,s2⟩,s3⟩;have ss1:=(fun i=>blk_cell s1 i);have ss2:=(fun i=>blk_cell s2 i);go_simp;try (with_reducible rfl))
   refine tkL (i:=6) (v:=?_) rfl ?_ ?_;rotate_left 1
   ·(rintro W ⟨⟨s1,s2⟩,s3⟩;have ss1:=(fun i=>blk_cell s1 i);have ss2:=(fun i=>blk_cell s2 i);go_simp;try (with_reducible rfl))
   refine wpAnyL_one (i:=7) (by kernel_rfl) rfl (fun K hK=>?_);go_simp;refine(hrp _).mono ?_;rintro e w4 ⟨rfl,b4⟩;have c4:=Nm.below_two bd b4;go_wp2_with fail
   refine hK.out _ _ (hS.out _ c4) (fun hHeld=>?_);clear hK K;refine tkL (i:=8) (v:=?_) rfl ?_ ?_;rotate_left 1
   ·(rintro W ⟨⟨s1,s2⟩,s3⟩;have ss1:=(fun i=>blk_cell s1 i);have ss2:=(fun i=>blk_cell s2 i);go_simp;try (with_reducible rfl))
   refine tkL (i:=9) (v:=?_) rfl ?_ ?_;rotate_left 1
   ·(rintro W ⟨⟨s1,s2⟩,s3⟩;have ss1:=(fun i=>blk_cell s1 i);have ss2:=(fun i=>blk_cell s2 i);go_simp;try (with_reducible rfl))
   refine tkL (i:=10) (v:=?_) rfl ?_ ?_;rotate_left 1
   ·(rintro W ⟨⟨s1,s2⟩,s3⟩;have ss1:=(fun i=>blk_cell s1 i);have ss2:=(fun i=>blk_cell s2 i);go_simp;try (with_reducible rfl))
   refine tkL (i:=11) (v:=?_) rfl ?_ ?_;rotate_left 1
   ·(rintro W ⟨⟨s1,s2⟩,s3⟩;have ss1:=(fun i=>blk_cell s1 i);have ss2:=(fun i=>blk_cell s2 i);go_simp;try (with_reducible rfl))
   refine tkL (i:=12) (v:=?_) rfl ?_ ?_;rotate_left 1
   ·(rintro W ⟨⟨s1,s2⟩,s3⟩;have ss1:=(fun i=>blk_cell s1 i);have ss2:=(fun i=>blk_cell s2 i);go_simp;try (with_reducible rfl))
   refine wpAnyL_done (by kernel_rfl) ?_;have kS4:=blk_below kS c4;have rS:=fun i=>blk_cell kS4 i
   have kR4:=blk_below kR2 c4;have bw4:=Nm.below_two bw2 c4;have o4:=own_below o3 c4;have cB:=(Below.refl w4.heap.size w4).alloc (Nat.le_refl _) (.cells #[.string s.own,.int .i64 s.ty,.int .i64 s.tt,.slice (some ⟨dg,0,none⟩) (rest.length+1) dc] 76);have kR5:=blk_below kR4 cB;have bw5:=Nm.below_two bw4 cB;have z5:ZFr (w4.alloc (.cells #[.string s.own,.int .i64 s.ty,.int .i64 s.tt,.slice (some ⟨dg,0,none⟩) (rest.length+1) dc] 76)) W1.heap.size (.slice (some ⟨w4.heap.size,0,none⟩) 1 1) [(s,Value.slice (some ⟨dg,0,none⟩) (rest.length+1) dc)]:=(zown_one (s:=s) (u:=.slice (some ⟨dg,0,none⟩) (rest.length+1) dc) (by rw [hda];exact o4) (Nat.le_trans sW c4.size)).fr;have rk:=fun i=>blk_cell kR5 i
   have fk:=fun i=>blk_frozen kR5 i
   clear hS hHeld c4 b4 kS kS4 kR2 kR4 bw2 bw4 o3 o4 cB hrp kN2 bd;go_simp
   by_cases hr0:rc=0
   ·have t1:(rc != 0)=false:=by simpa using hr0
    have HE2:Hid (S=⟨6,[s],false,rt⟩):=by show _=_;rw [HE.out,tailS,if_pos hr0]
    clear HE;have HE:=HE2;clear HE2;have kX:=setAll_new (st4 6 (.slice (some ⟨w4.heap.size,0,none⟩) 1 1) false rt) kR5 rfl;have HX:Hid (List.map (·.1) [(s,Value.slice (some ⟨dg,0,none⟩) (rest.length+1) dc)]=[s]∧ZFr (setAll (w4.alloc (.cells #[.string s.own,.int .i64 s.ty,.int .i64 s.tt,.slice (some ⟨dg,0,none⟩) (rest.length+1) dc] 76)) (w.heap.size+1) 0 (st4 6 (.slice (some ⟨w4.heap.size,0,none⟩) 1 1) false rt)) w.heap.size (.slice (some ⟨w4.heap.size,0,none⟩) 1 1) [(s,Value.slice (some ⟨dg,0,none⟩) (rest.length+1) dc)]∧Below w.heap.size w (setAll (w4.alloc (.cells #[.string s.own,.int .i64 s.ty,.int .i64 s.tt,.slice (some ⟨dg,0,none⟩) (rest.length+1) dc] 76)) (w.heap.size+1) 0 (st4 6 (.slice (some ⟨w4.heap.size,0,none⟩) 1 1) false rt))):=⟨rfl,(ZFr.setR (by omega) _ 0 _ z5).base (by omega),below_setR (by omega) _ 0 _ bw5⟩;clear z5 bw5 kR5;simp only [setAll,Nat.reduceAdd,Nat.zero_add] at kX HX;have rX:=fun i=>blk_cell kX i
    clear kX;go_wp2_with fail
    refine bodyPost_ret (v:=.agg #[.int .i64 6,(.slice (some ⟨w4.heap.size,0,none⟩) 1 1),.bool false,.string rt]) ?_ rfl ⟨(.slice (some ⟨w4.heap.size,0,none⟩) 1 1),_,by rw [HE.out],by rw [HE.out];exact HX.out.1,HX.out.2.1,HX.out.2.2⟩;simp [results,Tryz.f22,go_sem,rX]
   ·have t1:(rc != 0)=true:=by simpa using hr0
    have HE2:Hid (S=⟨7,[s],false,⟨#[]⟩⟩):=by show _=_;rw [HE.out,tailS,if_neg hr0]
    clear HE;have HE:=HE2;clear HE2;have kX:=setAll_new (st4 7 (.slice (some ⟨w4.heap.size,0,none⟩) 1 1) false ⟨#[]⟩) kR5 rfl;have HX:Hid (List.map (·.1) [(s,Value.slice (some ⟨dg,0,none⟩) (rest.length+1) dc)]=[s]∧ZFr (setAll (w4.alloc (.cells #[.string s.own,.int .i64 s.ty,.int .i64 s.tt,.slice (some ⟨dg,0,none⟩) (rest.length+1) dc] 76)) (w.heap.size+1) 0 (st4 7 (.slice (some ⟨w4.heap.size,0,none⟩) 1 1) false ⟨#[]⟩)) w.heap.size (.slice (some ⟨w4.heap.size,0,none⟩) 1 1) [(s,Value.slice (some ⟨dg,0,none⟩) (rest.length+1) dc)]∧Below w.heap.size w (setAll (w4.alloc (.cells #[.string s.own,.int .i64 s.ty,.int .i64 s.tt,.slice (some ⟨dg,0,none⟩) (rest.length+1) dc] 76)) (w.heap.size+1) 0 (st4 7 (.slice (some ⟨w4.heap.size,0,none⟩) 1 1) false ⟨#[]⟩))):=⟨rfl,(ZFr.setR (by omega) _ 0 _ z5).base (by omega),below_setR (by omega) _ 0 _ bw5⟩;clear z5 bw5 kR5;simp only [setAll,Nat.reduceAdd,Nat.zero_add] at kX HX;have rX:=fun i=>blk_cell kX i
    clear kX;go_wp2_with fail
    refine bodyPost_ret (v:=.agg #[.int .i64 7,(.slice (some ⟨w4.heap.size,0,none⟩) 1 1),.bool false,.string ⟨#[]⟩]) ?_ rfl ⟨(.slice (some ⟨w4.heap.size,0,none⟩) 1 1),_,by rw [HE.out],by rw [HE.out];exact HX.out.1,HX.out.2.1,HX.out.2.2⟩
    simp [results,Tryz.f22,go_sem,rX]
  |none=>
   have HE0:Hid (S=if thZ ps o (strN clo)=true then wldS name (atZ (ndsZ (ps.map (·.1)) (strN clo)) q) else stp 8):=by show _=_;rw [HS.out,lkN_w rfl hfz]
   have hss:(strN clo).size<=1048576:=by
    have:(strN clo).size=2+clo.size:=by simp [strN,ByteArray.size_append];rfl
    omega
   have hfd':Calls Tryz.prog 41 #[.agg #[.string o,.slice va ps.length vc],.string clo,.int .i64 39] W1 fun e w'=>∃ v,e=.returned (.tuple #[.agg #[.string ⟨#[]⟩,.int .i64 0,.int .i64 0,v],.bool false])∧(∃ a c,v=.slice a 0 c)∧Below W1.heap.size W1 w':=hfd.mono (by
    rintro e w' ⟨v,h1,h2,h3⟩;rw [hfz] at h1 h2
    exact⟨v,h1,own_sl h2,h3⟩)
   have hst:=fun W=>l07Star_any clo W (by omega)
   have hth:=fun W hW=>HTh.out W hW (strN clo) hss
   have hns3:=fun W hW=>HNs.out W hW (strN clo) hss
   generalize strN clo=ST at*
   cases htz:thZ ps o ST with
   |true=>
    rw [htz] at hth;rw [htz,if_pos rfl] at HE0;clear hfd HS HFd HNs HTh hfz htz;go_wp2_with fail
    refine hfd'.mono ?_;rintro e w2 ⟨v2,rfl,⟨da,dc,rfl⟩,b2⟩;have cA:=(Below.refl w2.heap.size w2).alloc (Nat.le_refl _) (.cells #[.string ⟨#[]⟩,.int .i64 0,.int .i64 0,.slice da 0 dc] 76);have c2:=Nm.below_two b2 cA;have bw2:=Nm.below_two bw1 c2;have kR2:=blk_below kR1 c2;have kN2:=blk_below kN1 c2;have kZ2:=blk_below kZ1 c2;have rZ2:=fun i=>blk_cell kZ2 i
    have rN2:=fun i=>blk_cell kN2 i
    clear hfd' b2 cA rZ rN;go_wp2_with fail
    refine(hst _).mono ?_;rintro e w3 ⟨rfl,hw3⟩;subst hw3;go_wp2_with fail
    refine(hth _ bw2).mono ?_;rintro e w3 ⟨rfl,b3⟩;have bw3:=Nm.below_two bw2 b3;have kR3:=blk_below kR2 b3;have kZ3:=blk_below kZ2 b3;have rZ3:=fun i=>blk_cell kZ3 i
    have sR3:w.heap.size+1<w3.heap.size:=blk_lt kR3;clear hth hst rZ2 rN2 kN2 kZ2 kR2 bw2 b3 c2 kN1 kZ1 kR1 bw1;go_wp2_with fail
    refine(hns3 _ bw3).mono ?_;rintro e w4 ⟨v4,qs4,rfl,e4,z4,b4⟩;have hl4:=nds_len e4;have hm4:=nds_mem e4 (P:=fun s=>0<s.da.length) HNE.out;have how:=l07Own_any name v4 qs4 w3.heap.size w4 z4 (by omega);obtain⟨fa,fc,rfl⟩:=own_sl z4.outer;have bw4:=Nm.below_two bw3 b4;have kR4:=blk_below kR3 b4;clear hns3 rZ3 kZ3 z4 bw3 kR3 b4;go_wp2_with fail
    refine how.mono ?_;rintro e w5 ⟨rfl,z5,b5⟩;have bw5:Below w.heap.size w w5:=bw4.trans (b5.mono (by omega));have kR5:Blk w5 (w.heap.size+1) st0 28:=(b5.block _ sR3).trans kR4
    have hat:=l07At_any (.slice fa qs4.length fc) (qs4.map (mapO name)) q w5 z5.zrow (by simp;omega) (fun p hp _=>by
     obtain⟨p',hp',rfl⟩:=List.mem_map.1 hp
     exact hm4 p' hp')
    have ey:(qs4.map (mapO name)).map (·.1)=(ndsZ (ps.map (·.1)) ST).map (ownZ name):=by
     rw [<- e4,List.map_map,List.map_map];rfl
    rw [ey] at hat;have HE1:Hid (S=⟨(atZ ((ndsZ (ps.map (·.1)) ST).map (ownZ name)) q).kd,(atZ ((ndsZ (ps.map (·.1)) ST).map (ownZ name)) q).ss,true,(atZ ((ndsZ (ps.map (·.1)) ST).map (ownZ name)) q).tgt⟩):=by show _=_;rw [HE0.out,at_own];rfl
    generalize atZ ((ndsZ (ps.map (·.1)) ST).map (ownZ name)) q=Y at*;have hzf:=Nm.hide z5.fr;clear how ey e4 hm4 hl4 z5 b5 kR4 bw4 HE0;go_wp2_with fail
    refine hat.mono ?_;rintro e w6 ⟨v6,ps6,rfl,e6,f6,b6⟩;obtain⟨ga,gc,rfl⟩:∃ a c,v6=.slice a ps6.length c:=by(obtain⟨⟨_,a,c,e,_⟩,_⟩:=f6 _ (hzf.out.below b6).read;exact⟨a,c,e⟩)
    have z6:ZFr w6 w3.heap.size (.slice ga ps6.length gc) ps6:=fun X hX=>f6 X (hzf.out.below b6 X hX)
    have bw6:=Nm.below_two bw5 b6;have kR6:=blk_below kR5 b6;have cS:=(Below.refl w6.heap.size w6).alloc (Nat.le_refl _) (.cells (st4 Y.kd (.slice ga ps6.length gc) true Y.tgt).toArray 28);have kS:=blk_new w6 (st4 Y.kd (.slice ga ps6.length gc) true Y.tgt).toArray 28;have kF:=blk_new w6 (st4 Y.kd (.slice ga ps6.length gc) Y.wild Y.tgt).toArray 28;have z7:=z6.below cS;have bw7:=Nm.below_two bw6 cS;have kR7:=blk_below kR6 cS;have HE:=HE1;have kX:=setAll_new (st4 Y.kd (.slice ga ps6.length gc) true Y.tgt) kR7 rfl;have HX:Hid (List.map (·.1) ps6=Y.ss∧ZFr (setAll (w6.alloc (.cells (st4 Y.kd (.slice ga ps6.length gc) true Y.tgt).toArray 28)) (w.heap.size+1) 0 (st4 Y.kd (.slice ga ps6.length gc) true Y.tgt)) w.heap.size (.slice ga ps6.length gc) ps6∧Below w.heap.size w (setAll (w6.alloc (.cells (st4 Y.kd (.slice ga ps6.length gc) true Y.tgt).toArray 28)) (w.heap.size+1) 0 (st4 Y.kd (.slice ga ps6.length gc) true Y.tgt))):=⟨e6,(ZFr.setR (by omega) _ 0 _ z7).base (by omega),below_setR (by omega) _ 0 _ bw7⟩;have rS:=fun i=>blk_cell kS i
    have rF:=fun i=>blk_cell kF i
    have fF:=fun i=>blk_frozen kF i
    have rk:=fun i=>blk_cell kR7 i
    have fk:=fun i=>blk_frozen kR7 i
    clear hat z6 z7 f6 e6 kR5 kR6 kR7 bw5 bw6 bw7 cS b6 hzf HE1 kS kF;simp only [setAll,Nat.reduceAdd,Nat.zero_add] at kX HX;have rX:=fun i=>blk_cell kX i
    clear kX;go_wp2_with fail
    refine bodyPost_ret (v:=.agg #[.int .i64 (Y.kd),(.slice ga ps6.length gc),.bool true,.string (Y.tgt)]) ?_ rfl ⟨(.slice ga ps6.length gc),_,by rw [HE.out],by rw [HE.out];exact HX.out.1,HX.out.2.1,HX.out.2.2⟩
    simp [results,Tryz.f22,go_sem,rX]
   |false=>
    rw [htz] at hth;rw [htz,if_neg (by decide)] at HE0;have HE:=HE0;clear hfd HS HFd HNs HTh hfz htz HE0 hns3;go_wp2_with fail
    refine hfd'.mono ?_;rintro e w2 ⟨v2,rfl,⟨da,dc,rfl⟩,b2⟩;have cA:=(Below.refl w2.heap.size w2).alloc (Nat.le_refl _) (.cells #[.string ⟨#[]⟩,.int .i64 0,.int .i64 0,.slice da 0 dc] 76);have c2:=Nm.below_two b2 cA;have bw2:=Nm.below_two bw1 c2;have kR2:=blk_below kR1 c2;have kN2:=blk_below kN1 c2;have kZ2:=blk_below kZ1 c2;have rZ2:=fun i=>blk_cell kZ2 i
    have rN2:=fun i=>blk_cell kN2 i
    clear hfd' b2 cA rZ rN;go_wp2_with fail
    refine(hst _).mono ?_;rintro e w3 ⟨rfl,hw3⟩;subst hw3;go_wp2_with fail
    refine(hth _ bw2).mono ?_;rintro e w3 ⟨rfl,b3⟩;have bw3:=Nm.below_two bw2 b3;have kR3:=blk_below kR2 b3;have kX:=setAll_new (st4 8 (.slice none 0 0) false ⟨#[]⟩) kR3 rfl;have HX:Hid (List.map (·.1) ([]:List Zp)=[]∧ZFr (setAll w3 (w.heap.size+1) 0 (st4 8 (.slice none 0 0) false ⟨#[]⟩)) w.heap.size (.slice none 0 0) []∧Below w.heap.size w (setAll w3 (w.heap.size+1) 0 (st4 8 (.slice none 0 0) false ⟨#[]⟩))):=⟨rfl,ZFr.nil,below_setR (by omega) _ 0 _ bw3⟩;have rk:=fun i=>blk_cell kR3 i
    have fk:=fun i=>blk_frozen kR3 i
    clear hth hst rZ2 rN2 kN2 kZ2 kR2 bw2 b3 c2 kN1 kZ1 kR1 bw1 kR3 bw3;simp only [setAll,Nat.reduceAdd,Nat.zero_add] at kX HX;have rX:=fun i=>blk_cell kX i
    clear kX;go_wp2_with fail
    refine bodyPost_ret (v:=.agg #[.int .i64 8,(.slice none 0 0),.bool false,.string ⟨#[]⟩]) ?_ rfl ⟨(.slice none 0 0),_,by rw [HE.out],by rw [HE.out];exact HX.out.1,HX.out.2.1,HX.out.2.2⟩;simp [results,Tryz.f22,go_sem,rX]
end Go.Proofs.YtcodajnebegdiaaGreat
