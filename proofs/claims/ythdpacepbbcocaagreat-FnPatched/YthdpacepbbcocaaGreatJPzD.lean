import Derived.Test.YthdpacepbbcocaaGreatJPzN
set_option linter.unusedVariables false
set_option maxRecDepth 100000
set_option maxHeartbeats 6400000
namespace Go.Proofs.YthdpacepbbcocaaGreat
open Go.RowKit
theorem aEn{α:Type}(m:List α->α->Bool)(hm:∀ xs x,m xs x=true↔x∈xs){A B:List α}(hA:A.Nodup)(hB:B.Nodup):
 (A.filter (fun x=> !m (A.filter (fun x=> !m B x)) x)++B.filter (fun x=> !m A x)).Perm B:=by
 have e:A.filter (fun x=> !m (A.filter (fun x=> !m B x)) x)=A.filter (fun x=>m B x):=by
  apply List.filter_congr;intro x hx
  cases hb:m B x with
  |true=>
   have:m (A.filter (fun x=> !m B x)) x=false:=by
    cases h:m (A.filter (fun x=> !m B x)) x
    ·rfl
    have:=(List.mem_filter.1 ((hm _ _).1 h)).2;rw [hb] at this;cases this
   rw [this];rfl
  |false=>
   have:m (A.filter (fun x=> !m B x)) x=true:=(hm _ _).2 (List.mem_filter.2 ⟨hx,by rw [hb];rfl⟩);rw [this];rfl
 rw [e]
 have p1:(A.filter (fun x=>m B x)).Perm (B.filter (fun x=>m A x)):=by
  refine(List.perm_ext_iff_of_nodup (hA.filter _) (hB.filter _)).2 ?_;intro x;rw [List.mem_filter,List.mem_filter,hm,hm];exact And.comm
 refine(p1.append_right _).trans ?_;exact List.filter_append_perm (fun x=>m A x) B
theorem aBf{xs ds:List Rr}(hd:ds.Nodup)(hx:∀ d∈ds,d∈xs):∀ n,heK xs ds n=true
 |0=>rfl
 |n+1=>by
  rw [heK,aBf hd hx n,Bool.true_and]
  cases e:ds[n]? with
  |none=>rfl
  |some d=>
   simp only [];rw [wK,eQ,List.mem_filter];refine⟨hx d (bP e),?_⟩;rw [aAl]
   ·rfl
   intro hm;obtain⟨i,hi⟩:=List.mem_iff_getElem?.1 hm;rw [List.getElem?_take] at hi
   split at hi
   ·rename_i bV;obtain⟨h1,h2⟩:=dK hi;obtain⟨h3,h4⟩:=dK e;exact List.pairwise_iff_getElem.1 hd i n h1 h3 bV (h2.trans h4.symm)
   cases hi
theorem Rw{ps:List Zp}{o:ByteArray}(hz:pI ps o=true):Jq (eX ps)=true∧(eX ps::dF (aD ps)).Perm (aD ps):=by
 obtain⟨al,ha⟩:=uQ hz;obtain⟨r,k,s,ds,h1,h2,-,h3,-,-,-,h4,-⟩:=FW hz ha;have e:eX ps=r:=by rw [eX,h1];rfl
 rw [e];refine⟨by rw [Jq,List.find?_some h1,h4];rfl,?_⟩;rw [<- h3]
 have e2:aD ps=(aD ps).take k++(r::(aD ps).drop (k+1)):=by
  obtain⟨h5,h6⟩:=dK h2;rw [<- h6,List.getElem_cons_drop,List.take_append_drop]
 conv=>rhs;rw [e2]
 exact List.perm_middle.symm
theorem aEo{a b:ByteArray}(h:a.toList=b.toList):a=b:=by
 rw [ByteArray.toList_eq,ByteArray.toList_eq] at h;cases a;cases b
 simp only [ByteArray.mk.injEq];exact Array.toList_inj.1 h
theorem aSb{ps1 ps2:List Zp}{o1 o2:ByteArray}(h0:(CG ps1 ps2 o1 o2).co=0):
 o1=o2∧ptC ps1 o1 (CG ps1 ps2 o1 o2).old (CG ps1 ps2 o1 o2).new (CG ps1 ps2 o1 o2).del (CG ps1 ps2 o1 o2).add=0∧
  mW (pzL ps1 (CG ps1 ps2 o1 o2).new (CG ps1 ps2 o1 o2).del (CG ps1 ps2 o1 o2).add)=ps2.map (·.1):=by
 have hk:GA ps1 ps2 o1 o2=true:=by
  cases h:GA ps1 ps2 o1 o2 with
  |true=>rfl
  |false=>rw [CG,if_pos h] at h0;cases h0
 have hs:rJ (CS (eX ps1)) (CS (eX ps2))=true:=by
  cases h:rJ (CS (eX ps1)) (CS (eX ps2)) with
  |true=>rfl
  |false=>
   rw [CG,if_neg (by rw [hk];simp),if_neg (by rw [h];simp)] at h0;cases h0
 have er:CG ps1 ps2 o1 o2=⟨0,eX ps1,eX ps2,eQ (dF (aD ps1)) (dF (aD ps2)),eQ (dF (aD ps2)) (dF (aD ps1))⟩:=by
  rw [CG,if_neg (by rw [hk];simp),if_pos hs]
 rw [er];simp only [GA,Bool.and_eq_true,beq_iff_eq] at hk;obtain⟨⟨z1,z2⟩,eo⟩:=hk;have eo:=aEo eo;subst eo;obtain⟨b1,p1⟩:=Rw z1;obtain⟨b2,p2⟩:=Rw z2;have n1:(dF (aD ps1)).Nodup:=(AL z1).filter _;have n2:(dF (aD ps2)).Nodup:=(AL z2).filter _
 have hp:(pzL ps1 (eX ps2) (eQ (dF (aD ps1)) (dF (aD ps2))) (eQ (dF (aD ps2)) (dF (aD ps1)))).Perm (aD ps2):=by
  refine List.Perm.trans ?_ p2;rw [pzL,List.append_assoc,List.singleton_append];exact(aEn zK wK n1 n2).cons _
 obtain⟨q1,q2⟩:=aEl z2 hp;refine⟨rfl,?_,q2⟩
 have len:∀ {ps:List Zp} (L:List Rr),pI ps o1=true->(eQ (dF (aD ps)) L).length<=500:=by
  intro ps L hz;exact iL (iL (List.length_filter_le _ _) (List.length_filter_le _ _)) (II hz)
 have hd:=len (dF (aD ps2)) z1;have ha:=len (dF (aD ps1)) z2;simp only []
 have c1:(decide (500<(eQ (dF (aD ps1)) (dF (aD ps2))).length)||decide (500<(eQ (dF (aD ps2)) (dF (aD ps1))).length))=false:=by
  rw [jU (by omega),jU (by omega)];rfl
 have c2:(!KU (eX ps1) (eX ps1)|| !cbB (eX ps2) (eX ps1))=false:=by
  rw [(xX _ _).2 rfl,cbB,b1,b2,hs];rfl
 have c3:heB (dF (aD ps1)) (eQ (dF (aD ps1)) (dF (aD ps2)))=true:=
  aBf (n1.filter _) (fun d h=>(List.mem_filter.1 h).1) _
 have c4:(eQ (dF (aD ps2)) (dF (aD ps1))).any xM=false:=by
  rw [List.any_eq_false];intro x hx;have:=(List.mem_filter.1 (List.mem_filter.1 hx).1).2;simpa using this
 rw [ptC,if_pos z1,pzC,if_neg (by rw [c1];simp),if_neg (by rw [c2];simp),if_neg (by rw [c3,c4];simp)];exact q1
theorem aLs:xN uW:=⟨dO _,dO _,by decide+kernel,by decide+kernel,by decide+kernel⟩
theorem Rx(ps:List Zp):eX ps∈aD ps∨eX ps=uW:=by
 unfold eX
 cases h:(aD ps).find? xM with
 |none=>exact .inr rfl
 |some x=>exact .inl (List.mem_of_find?_eq_some h)
theorem aLt{ps1 ps2:List Zp}{o1 o2:ByteArray}(h0:(CG ps1 ps2 o1 o2).co=0)(l1:ZL ps1)(l2:ZL ps2):
 (CG ps1 ps2 o1 o2).old.da.size<=1048576∧(xN (CG ps1 ps2 o1 o2).new∧(CG ps1 ps2 o1 o2).new.own.size<=1048576∧(CG ps1 ps2 o1 o2).new.da.size<=1048576)∧(∀ x∈(CG ps1 ps2 o1 o2).del,xN x)∧∀ x∈(CG ps1 ps2 o1 o2).add,x.own.size<=1048576∧x.da.size<=1048576:=by
 have hk:GA ps1 ps2 o1 o2=true:=by
  cases h:GA ps1 ps2 o1 o2 with
  |true=>rfl
  |false=>rw [CG,if_pos h] at h0;cases h0
 have hs:rJ (CS (eX ps1)) (CS (eX ps2))=true:=by
  cases h:rJ (CS (eX ps1)) (CS (eX ps2)) with
  |true=>rfl
  |false=>
   rw [CG,if_neg (by rw [hk];simp),if_neg (by rw [h];simp)] at h0;cases h0
 have er:CG ps1 ps2 o1 o2=⟨0,eX ps1,eX ps2,eQ (dF (aD ps1)) (dF (aD ps2)),eQ (dF (aD ps2)) (dF (aD ps1))⟩:=by
  rw [CG,if_neg (by rw [hk];simp),if_pos hs]
 rw [er];simp only [GA,Bool.and_eq_true,beq_iff_eq] at hk;obtain⟨⟨z1,z2⟩,-⟩:=hk;have f1:∀ p∈ps1,p.1.own.size<=1048576∧∀ x∈p.1.da,x.size<=1048576:=fun p hp=>⟨(l1.2.2 p hp).1,(l1.2.2 p hp).2.2⟩
 have f2:∀ p∈ps2,p.1.own.size<=1048576∧∀ x∈p.1.da,x.size<=1048576:=fun p hp=>⟨(l2.2.2 p hp).1,(l2.2.2 p hp).2.2⟩
 obtain⟨al1,Hr⟩:=uQ z1;obtain⟨al2,ha2⟩:=uQ z2;have g1:=FV z1 Hr f1;have g2:=FV z2 ha2 f2;have r1:=sK f1;have r2:=sK f2;refine⟨?_,?_,fun x hx=>g1 x (List.mem_filter.1 (List.mem_filter.1 hx).1).1,fun x hx=>r2 x (List.mem_filter.1 (List.mem_filter.1 hx).1).1⟩
 ·rcases Rx ps1 with h|h
  ·exact(r1 _ h).2
  simp only [h];exact dO _
 rcases Rx ps2 with h|h
 ·exact⟨g2 _ h,r2 _ h⟩
 simp only [h];exact⟨aLs,dO _,dO _⟩
section
variable {P:Program}{ops:Array Oper}{Q:Exit->Act->World->Prop}{md:Region.Mode}{S:World->Prop}{L:Nat}
theorem Iw{i j k:Nat}{o o1 o2:Oper}{fuel:Nat}{listed:Array Bool}{a:Act}{w:World}(hr:Region.ready md ops listed=[i,j,k])(ho:ops[i]? =some o)(CR:ops[j]? =some o1)(ho2:ops[k]? =some o2)
 (h:∀ K':Act->World->Prop,Shut (∀ a w,S w->(S w->wpAnyL P md ops Q S L fuel (listed.setIfInBounds i true) a w)->K' a w)->if Region.wanted o (yielded ops a.tmps)=true then Oper.wp P o a w K' Q else K' (a.put o.dst undef) w)
 (h1:∀ K':Act->World->Prop,Shut (∀ a w,S w->(S w->wpAnyL P md ops Q S L fuel (listed.setIfInBounds j true) a w)->K' a w)->if Region.wanted o1 (yielded ops a.tmps)=true then Oper.wp P o1 a w K' Q else K' (a.put o1.dst undef) w)
 (h2:∀ K':Act->World->Prop,Shut (∀ a w,S w->(S w->wpAnyL P md ops Q S L fuel (listed.setIfInBounds k true) a w)->K' a w)->if Region.wanted o2 (yielded ops a.tmps)=true then Oper.wp P o2 a w K' Q else K' (a.put o2.dst undef) w):
 wpAnyL P md ops Q S L (fuel+1) listed a w:=by
 refine⟨fun h0=>(by rw [hr] at h0;cases h0),fun q hq=>?_⟩;rw [hr] at hq
 rcases(show q=i∨q=j∨q=k by simpa using hq) with rfl|rfl|rfl
 ·exact wpOp_step ho (fun K' hK=>h K' (fun a w hS hW=>hK a w ⟨.inr hS,hW hS⟩))
 ·exact wpOp_step CR (fun K' hK=>h1 K' (fun a w hS hW=>hK a w ⟨.inr hS,hW hS⟩))
 exact wpOp_step ho2 (fun K' hK=>h2 K' (fun a w hS hW=>hK a w ⟨.inr hS,hW hS⟩))
end
theorem aEp(o:ByteArray)(v d a:Value)(ps:List Zp)(old new:Rr)(del add:List Rr)(w:World)(h:gI w v ps)(hd:bS w d del.length 5 (bK del))(Jn:bS w a add.length 5 (bK add))(hz:pI ps o=true)(hs:rG ps<=1048576)(hf:∀ p∈ps,p.1.own.size<=1048576∧∀ x∈p.1.da,x.size<=1048576)(ho:o.size<=1048576)(yN:old.da.size<=1048576)(hfn:xN new∧new.own.size<=1048576∧new.da.size<=1048576)(Dk:∀ x∈del,xN x)(hfa:∀ x∈add,x.own.size<=1048576∧x.da.size<=1048576):
 Calls Tryz.prog 24 #[.agg #[.string o,v],Sy old new d a] w (aIg (pzC ps o old new del add) (pzL ps new del add) o w):=by
 obtain⟨va,vc,rfl⟩:∃ va vc,v=.slice va ps.length vc:=by obtain⟨⟨_,a,c,e,_⟩,_⟩:=h;exact⟨a,c,e⟩
 obtain⟨da,dc,rfl⟩:∃ da dc,d=.slice da del.length dc:=by obtain⟨_,a,c,e,_⟩:=hd;exact⟨a,c,e⟩
 obtain⟨aa,ac,rfl⟩:∃ aa ac,a=.slice aa add.length ac:=by obtain⟨_,a,c,e,_⟩:=Jn;exact⟨a,c,e⟩
 obtain⟨R,HR⟩:∃ R,Hid (R=pzC ps o old new del add):=⟨_,rfl⟩;rw [<- HR.out];obtain⟨W0,lF⟩:∃ W0,W0=((w.alloc (.cells #[.string o,.slice va ps.length vc] 25)).alloc (.cells (JN old new (.slice da del.length dc) (.slice aa add.length ac)).toArray 32)).alloc (.cells #[.string ⟨#[]⟩,.slice none 0 0] 25):=⟨_,rfl⟩
 have b0:Below w.heap.size w W0:=by
  rw [lF];exact(((aK w.heap.size w).alloc (aN _) _).alloc (by simp) _).alloc (by simp;omega) _
 have ky:bG W0 w.heap.size #[.string o,.slice va ps.length vc] 25:=by
  rw [lF];exact aR (aR (aH w #[.string o,.slice va ps.length vc] 25) _) _
 have kz:bG W0 (w.heap.size+1) (JN old new (.slice da del.length dc) (.slice aa add.length ac)).toArray 32:=by
  rw [lF];have:=aH (w.alloc (.cells #[.string o,.slice va ps.length vc] 25)) (JN old new (.slice da del.length dc) (.slice aa add.length ac)).toArray 32;rw [fV] at this;exact aR this _
 have kc:bG W0 (w.heap.size+2) #[.string ⟨#[]⟩,.slice none 0 0] 25:=by
  rw [lF];have:=aH ((w.alloc (.cells #[.string o,.slice va ps.length vc] 25)).alloc (.cells (JN old new (.slice da del.length dc) (.slice aa add.length ac)).toArray 32)) #[.string ⟨#[]⟩,.slice none 0 0] 25;rw [fV,fV] at this;exact this
 have z0:W0.heap.size=w.heap.size+3:=by rw [lF];simp
 have hlo:=Zz old new da aa del.length add.length dc ac W0;have rz:=fun i=>aA kz i
 cases hl:(decide (500<del.length)||decide (500<add.length)) with
 |true=>
  have HN:Hid (R=32):=by show _=_;rw [HR.out,pzC,if_pos hl]
  rw [hl,lF] at hlo;clear HR;go_enter Tryz.func24,Tryz.ntmps24;go_wp2_with fail
  rw [<- lF] at hlo ⊢;clear lF;go_at_call 44
  refine hlo.mono ?_;rintro e w1 ⟨rfl,b1⟩;have mO:=Nm.aC b0 b1;have DY:=aB kc b1;have rk:=fun i=>aA DY i
  have fk:=fun i=>aG DY i
  have kX:=dJ [.string ⟨#[]⟩,.slice none 0 0] DY rfl;have HX:=Nm.aF (eP (Nat.le_add_right _ 2) [.string ⟨#[]⟩,.slice none 0 0] 0 _ mO);simp only [cO,Nat.zero_add] at kX HX;have rX:=fun i=>aA kX i
  clear kX;go_wp2;rw [HN.out];refine gD (v:=.tuple #[.agg #[.string ⟨#[]⟩,.slice none 0 0],.int .i64 32]) ?_ rfl ⟨_,_,rfl,Pz.bad (by decide),HX.out⟩
  simp [results,Tryz.f24,go_sem,rX]
 |false=>
  have l1:del.length<=500:=by simp at hl;omega
  have l2:add.length<=500:=by simp at hl;omega
  obtain⟨al,hal⟩:=uQ hz;obtain⟨r,k,s,ds,f1,g1,i1,c1,-,-,-,u1,-⟩:=FW hz hal;have e1:eX ps=r:=by rw [eX,f1];rfl
  have m1:=(sK hf r (bP g1)).2;have n1:=II hz;have hRf:∀ x∈dF (aD ps),xN x:=fun x hx=>FV hz hal hf x (List.mem_filter.1 hx).1
  have hRs:∀ x∈dF (aD ps),x.own.size<=1048576∧x.da.size<=1048576:=fun x hx=>sK hf x (List.mem_filter.1 hx).1
  have hRn:(dF (aD ps)).Nodup:=(AL hz).filter _;have hRl:(dF (aD ps)).length<=500:=by have:=List.length_filter_le (fun x=> !xM x) (aD ps);unfold dF;omega
  have RI:=fun W (hW:Below w.heap.size w W)=>CF o _ ps r k _ W (h.below hW) hs (fun p hp x hx=>(hf p hp).2 x hx) g1 i1 n1 c1
  have hcb:=fun W=>CU new old W (by omega) (by omega)
  have HD:Hid (R=if !KU r old|| !cbB new old then 27 else if !heB (dF (aD ps)) del||add.any xM then 7 else(eH (pzL ps new del add) o).1):=by
   show _=_
   rw [HR.out,pzC,if_neg (by rw [hl];decide),e1]
  clear HR f1 g1 i1 c1 u1 e1 n1 hz hs hf;have Ug:Hid (pzL ps new del add=[new]++eQ (dF (aD ps)) del++add):=by show _=_;rfl
  have hPL:∀ x∈pzL ps new del add,x.own.size<=1000000000∧x.da.size<=2000000:=by
   intro x hx
   have key:x.own.size<=1048576∧x.da.size<=1048576:=by
    rw [pzL,List.mem_append,List.mem_append] at hx
    rcases hx with(hx|hx)|hx
    ·simp at hx;subst hx;exact hfn.2
    ·exact hRs x (List.mem_filter.1 hx).1
    exact hfa x hx
   omega
  have hWl:(eQ (dF (aD ps)) del).length<=500:=by have:=List.length_filter_le (fun x=> !zK del x) (dF (aD ps));unfold eQ;omega
  generalize pzL ps new del add=PL at*;generalize dF (aD ps)=RS at*;rw [hl,lF] at hlo;go_enter Tryz.func24,Tryz.ntmps24;go_wp2_with fail
  rw [<- lF] at hlo ⊢;clear lF;go_at_call 44
  refine hlo.mono ?_;rintro e w1 ⟨rfl,b1⟩;have mO:=Nm.aC b0 b1;have Zy:=aB ky b1;have uC:=aB kz b1;have DY:=aB kc b1;have z1:=b1.size;have ry:=fun i=>aA Zy i
  clear rz hlo b1 ky kz kc b0;go_wp2_with fail
  go_at_call 40
  refine(RI _ mO).mono ?_;rintro e w2 ⟨ua,uc,rfl,oR,b2⟩;have bA:=Nm.aC b2 ((aK w2.heap.size w2).alloc (aN _) (.cells #[.string r.own,.int .i64 r.ty,.int .i64 r.cl,.int .i64 r.tt,.string r.da] 29));have kr:=aH w2 #[.string r.own,.int .i64 r.ty,.int .i64 r.cl,.int .i64 r.tt,.string r.da] 29;have oA:=own_below oR ((aK w2.heap.size w2).alloc (aN _) (.cells #[.string r.own,.int .i64 r.ty,.int .i64 r.cl,.int .i64 r.tt,.string r.da] 29));have ky2:=aB Zy bA;have sV:=aB uC bA;have EC:=aB DY bA;have vO:=Nm.aC mO bA;have z2:=bA.size;have rz:=fun i=>aA sV i
  have rr:=fun i=>aA kr i
  clear ry RI b2 Zy uC DY mO oR bA;cases hq:KU r old
  ·have HN:Hid (R=27):=by show _=_;rw [HD.out,hq];rfl
   have rk:=fun i=>aA EC i
   have fk:=fun i=>aG EC i
   have ne:(r.own.toList==old.own.toList&&r.ty==old.ty&&r.cl==old.cl&&r.tt==old.tt&&r.da.toList==old.da.toList)=false:=KJ.symm.trans hq;clear HD hq;cases e1:(r.own.toList==old.own.toList)
   ·clear ne;have kX:=dJ [.string ⟨#[]⟩,.slice none 0 0] EC rfl;have HX:=Nm.aF (eP (Nat.le_add_right _ 2) [.string ⟨#[]⟩,.slice none 0 0] 0 _ vO);simp only [cO,Nat.zero_add] at kX HX;have rX:=fun i=>aA kX i
    clear kX;go_wp2;rw [HN.out];refine gD (v:=.tuple #[.agg #[.string ⟨#[]⟩,.slice none 0 0],.int .i64 27]) ?_ rfl ⟨_,_,rfl,Pz.bad (by decide),HX.out⟩;simp [results,Tryz.f24,go_sem,rX]
   cases e2:(r.ty==old.ty)
   ·clear ne;have kX:=dJ [.string ⟨#[]⟩,.slice none 0 0] EC rfl;have HX:=Nm.aF (eP (Nat.le_add_right _ 2) [.string ⟨#[]⟩,.slice none 0 0] 0 _ vO);simp only [cO,Nat.zero_add] at kX HX;have rX:=fun i=>aA kX i
    clear kX;go_wp2;rw [HN.out];refine gD (v:=.tuple #[.agg #[.string ⟨#[]⟩,.slice none 0 0],.int .i64 27]) ?_ rfl ⟨_,_,rfl,Pz.bad (by decide),HX.out⟩;simp [results,Tryz.f24,go_sem,rX]
   cases e3:(r.cl==old.cl)
   ·clear ne;have kX:=dJ [.string ⟨#[]⟩,.slice none 0 0] EC rfl;have HX:=Nm.aF (eP (Nat.le_add_right _ 2) [.string ⟨#[]⟩,.slice none 0 0] 0 _ vO);simp only [cO,Nat.zero_add] at kX HX;have rX:=fun i=>aA kX i
    clear kX;go_wp2;rw [HN.out];refine gD (v:=.tuple #[.agg #[.string ⟨#[]⟩,.slice none 0 0],.int .i64 27]) ?_ rfl ⟨_,_,rfl,Pz.bad (by decide),HX.out⟩;simp [results,Tryz.f24,go_sem,rX]
   cases e4:(r.tt==old.tt)
   ·clear ne;have kX:=dJ [.string ⟨#[]⟩,.slice none 0 0] EC rfl;have HX:=Nm.aF (eP (Nat.le_add_right _ 2) [.string ⟨#[]⟩,.slice none 0 0] 0 _ vO);simp only [cO,Nat.zero_add] at kX HX;have rX:=fun i=>aA kX i
    clear kX;go_wp2;rw [HN.out];refine gD (v:=.tuple #[.agg #[.string ⟨#[]⟩,.slice none 0 0],.int .i64 27]) ?_ rfl ⟨_,_,rfl,Pz.bad (by decide),HX.out⟩;simp [results,Tryz.f24,go_sem,rX]
   cases e5:(r.da.toList==old.da.toList)
   ·clear ne;have kX:=dJ [.string ⟨#[]⟩,.slice none 0 0] EC rfl;have HX:=Nm.aF (eP (Nat.le_add_right _ 2) [.string ⟨#[]⟩,.slice none 0 0] 0 _ vO);simp only [cO,Nat.zero_add] at kX HX;have rX:=fun i=>aA kX i
    clear kX;go_wp2;rw [HN.out];refine gD (v:=.tuple #[.agg #[.string ⟨#[]⟩,.slice none 0 0],.int .i64 27]) ?_ rfl ⟨_,_,rfl,Pz.bad (by decide),HX.out⟩;simp [results,Tryz.f24,go_sem,rX]
   rw [e1,e2,e3,e4,e5] at ne;cases ne
  obtain rfl:=(xX r old).1 hq;have hhe:=fun W (hW:Below w.heap.size w W) (v:Value) (hv:bS W v RS.length 5 (bK RS))=>Nb v _ RS del W hv (hd.below hW) hRf Dk hRn (by omega) (by omega)
  have hco:=fun W (hW:Below w.heap.size w W)=>TG _ add W (Jn.below hW)
  cases hv1:cbB new r
  ·have HN:Hid (R=27):=by show _=_;rw [HD.out,hv1,Bool.not_false,Bool.or_true];rfl
   rw [hv1] at hcb;clear HD hv1 hq;go_wp2_with fail
   go_at_call 23
   refine(hcb _).mono ?_;rintro e w3 ⟨rfl,b3⟩;have kc3:=aB EC b3;have TB:=Nm.aC vO b3;have rk:=fun i=>aA kc3 i
   have fk:=fun i=>aG kc3 i
   clear rz rr;have kX:=dJ [.string ⟨#[]⟩,.slice none 0 0] kc3 rfl;have HX:=Nm.aF (eP (Nat.le_add_right _ 2) [.string ⟨#[]⟩,.slice none 0 0] 0 _ TB);simp only [cO,Nat.zero_add] at kX HX;have rX:=fun i=>aA kX i
   clear kX;go_wp2;rw [HN.out];refine gD (v:=.tuple #[.agg #[.string ⟨#[]⟩,.slice none 0 0],.int .i64 27]) ?_ rfl ⟨_,_,rfl,Pz.bad (by decide),HX.out⟩;simp [results,Tryz.f24,go_sem,rX]
  have HE:Hid (R=if !heB RS del||add.any xM then 7 else(eH PL o).1):=by show _=_;rw [HD.out,hv1,hq];rfl
  rw [hv1] at hcb;clear HD hv1 hq;go_wp2_with fail
  go_at_call 23
  refine(hcb _).mono ?_;rintro e w3 ⟨rfl,b3⟩;have ky3:=aB ky2 b3;have yP:=aB sV b3;have kc3:=aB EC b3;have TB:=Nm.aC vO b3;have o3:=own_below oA b3;have z3:=b3.size;have rz3:=fun i=>aA yP i
  clear rz rr ky2 sV EC vO oA hcb b3;have aIq:=hhe _ TB _ (bS.aS o3);cases FI:heB RS del
  ·have HN:Hid (R=7):=by show _=_;rw [HE.out,FI];rfl
   rw [FI] at aIq;clear HE FI;go_wp2_with fail
   go_at_call 45
   refine aIq.mono ?_;rintro e w4 ⟨rfl,b4⟩;have Jr:=aB kc3 b4;have xS:=Nm.aC TB b4;have rk:=fun i=>aA Jr i
   have fk:=fun i=>aG Jr i
   clear rz3;have kX:=dJ [.string ⟨#[]⟩,.slice none 0 0] Jr rfl;have HX:=Nm.aF (eP (Nat.le_add_right _ 2) [.string ⟨#[]⟩,.slice none 0 0] 0 _ xS);simp only [cO,Nat.zero_add] at kX HX;have rX:=fun i=>aA kX i
   clear kX;go_wp2;rw [HN.out];refine gD (v:=.tuple #[.agg #[.string ⟨#[]⟩,.slice none 0 0],.int .i64 7]) ?_ rfl ⟨_,_,rfl,Pz.bad (by decide),HX.out⟩;simp [results,Tryz.f24,go_sem,rX]
  rw [FI] at aIq;go_wp2_with fail
  go_at_call 45
  refine aIq.mono ?_;rintro e w4 ⟨rfl,b4⟩;have ky4:=aB ky3 b4;have ZN:=aB yP b4;have Jr:=aB kc3 b4;have xS:=Nm.aC TB b4;have o4:=own_below o3 b4;have z4:=b4.size;have rz4:=fun i=>aA ZN i
  clear rz3 ky3 yP kc3 o3 aIq hhe b4;have aIr:=hco _ xS
  cases hv3:add.any xM with
  |true=>
   have HN:Hid (R=7):=by show _=_;rw [HE.out,FI,hv3];rfl
   rw [hv3] at aIr;clear HE FI hv3;go_wp2_with fail
   go_at_call 46
   refine aIr.mono ?_;rintro e w5 ⟨rfl,b5⟩;have kc5:=aB Jr b5;have RO:=Nm.aC xS b5;have rk:=fun i=>aA kc5 i
   have fk:=fun i=>aG kc5 i
   clear rz4;have kX:=dJ [.string ⟨#[]⟩,.slice none 0 0] kc5 rfl;have HX:=Nm.aF (eP (Nat.le_add_right _ 2) [.string ⟨#[]⟩,.slice none 0 0] 0 _ RO);simp only [cO,Nat.zero_add] at kX HX;have rX:=fun i=>aA kX i
   clear kX;go_wp2;rw [HN.out];refine gD (v:=.tuple #[.agg #[.string ⟨#[]⟩,.slice none 0 0],.int .i64 7]) ?_ rfl ⟨_,_,rfl,Pz.bad (by decide),HX.out⟩
   simp [results,Tryz.f24,go_sem,rX]
  |false=>
   have HN:Hid (R=(eH PL o).1):=by show _=_;rw [HE.out,FI,hv3];rfl
   rw [hv3] at aIr;have JY:=aGb FI;clear HE FI hv3 hco;go_wp2_with fail
   go_at_call 46
   refine aIr.mono ?_;rintro e wb ⟨rfl,b5⟩;have kyb:=aB ky4 b5;have kzb:=aB ZN b5;have kcb:=aB Jr b5;have bwb:=Nm.aC xS b5;have ob:=own_below o4 b5;have zb:=b5.size;clear rz4 ky4 ZN Jr o4 aIr b5 TB xS;have lb:w.heap.size+2<wb.heap.size:=bU kcb;have kS:Hid (∀ X,Below wb.heap.size wb X->bG X w.heap.size #[.string o,.slice va ps.length vc] 25∧bG X (w.heap.size+1) (JN r new (.slice da del.length dc) (.slice aa add.length ac)).toArray 32):=fun X hX=>⟨aB kyb hX,aB kzb hX⟩
   have bd:=(aK wb.heap.size wb).drew;have bx0:=bd;have hwo:=fun W (hW:Below wb.heap.size wb W)=>QP _ _ RS del W (bS.aS (own_below ob hW)) (hd.below (Nm.aC bwb hW)) hRf Dk (JY) (by omega) (by omega)
   generalize eQ RS del=WD at*;have hcn:∀ W,Below wb.heap.size wb W->∀ v1 v2 b,bG W b #[v1,v2,.slice aa add.length ac] 30->bS W v1 1 5 (bK [new])->bS W v2 WD.length 5 (bK WD)->Calls Tryz.prog 49 #[.slice (some ⟨b,0,none⟩) 3 3] W fun e w'=>∃ v,e=.returned v∧w'.ownsRow W.heap.size 29 5 v PL.length (bK PL)∧Below W.heap.size W w':=fun W hW v1 v2 b k r1 r2=>by rw [Ug.out];exact Qq v1 v2 _ [new] WD add b W (aA k 0) (aA k 1) (aA k 2) r1 r2 (Jn.below (Nm.aC bwb hW)) (by simp) (by simp) (by omega) (by omega)
   have vY:∀ W v,bS W v PL.length 5 (bK PL)->Calls Tryz.prog 48 #[v,.string o] W fun e w'=>∃ oz vz ix,e=.returned (.tuple #[.agg #[.string oz,vz],.int .i64 R,.int .i64 ix])∧Pz R PL o w' W.heap.size oz vz∧Below W.heap.size W w':=fun W v hv=>by rw [HN.out];exact(NZ v PL o W hv (by omega) hPL).mono fun e w' hp=>aR1 hp
   go_upto_region 8 with fail
   go_cut [8,9,10] from 43 to 60 (fun p q r wx=>∃ (c:Nat) (oz:ByteArray) (vz:Value) (ix:Int),p=.pointer (some ⟨c,0,none⟩)∧q=.int .i64 R∧r=.int .i64 ix∧wb.heap.size<=c∧bG wx c #[.string oz,vz] 25∧Pz R PL o wx wb.heap.size oz vz∧Below wb.heap.size wb wx)
   case first=>
    refine kR (fun X=>bG X w.heap.size #[.string o,.slice va ps.length vc] 25∧bG X (w.heap.size+1) (JN r new (.slice da del.length dc) (.slice aa add.length ac)).toArray 32) 1000 (kS.out _ bd) fun aO=>?_;generalize wb.drew=x at*;have bx:=bx0;clear bx0;refine kP 0 rfl ?_;refine kP 1 rfl ?_;refine kP 3 rfl ?_;refine kP 4 rfl ?_;refine kP 5 rfl ?_;refine kP 7 rfl ?_;refine kP 8 rfl ?_;refine kP 11 rfl ?_;refine kP 12 rfl ?_;refine Iw (i:=2) (j:=6) (k:=18) (by kernel_rfl) rfl rfl rfl (fun K hK=>?_) (fun K hK=>?_) fun K hK=>?_
    case' _=>
     go_simp;have ca:=(aK x.heap.size x).alloc (aN _) (.cells #[.string new.own,.int .i64 new.ty,.int .i64 new.cl,.int .i64 new.tt,.string new.da] 29);have kN:=aH x #[.string new.own,.int .i64 new.ty,.int .i64 new.cl,.int .i64 new.tt,.string new.da] 29;have sN:=bx.size
     replace bx:=Nm.aC bx ca
     refine hK.out _ _ (kS.out _ bx) fun aO=>?_;clear hK K;obtain⟨gA,hgA⟩:∃ g,g=x.heap.size:=⟨_,rfl⟩;rw [<- hgA] at kN ⊢;generalize x.alloc (.cells #[.string new.own,.int .i64 new.ty,.int .i64 new.cl,.int .i64 new.tt,.string new.da] 29)=x at*;have rA:=aLf kN;clear kN hgA sN ca
    rotate_left 1
    case' _=>
     go_simp;refine(hwo x bx).mono ?_;rintro e x ⟨vB,rfl,oB,cN⟩;obtain⟨ba,bc,rfl⟩:=aT oB;have rB:=bS.aS oB
     replace bx:=Nm.aC bx cN
     go_wp2_with fail
     refine hK.out _ _ (kS.out _ bx) fun aO=>?_;clear hK K cN oB
    rotate_left 1
    case' _=>
     go_simp;have ca:=(aK x.heap.size x).alloc (aN _) (.cells #[.string ⟨#[]⟩,.slice none 0 0] 25);have kN:=aH x #[.string ⟨#[]⟩,.slice none 0 0] 25;have sN:=bx.size
     replace bx:=Nm.aC bx ca
     refine hK.out _ _ (kS.out _ bx) fun aO=>?_;clear hK K;obtain⟨gX,El⟩:∃ g,g=x.heap.size:=⟨_,rfl⟩;rw [<- El] at kN ⊢;have lx:wb.heap.size<=gX:=by omega
     generalize x.alloc (.cells #[.string ⟨#[]⟩,.slice none 0 0] 25)=x at*;have kX:=kN;clear kN El sN ca
    all_goals try
     have _:=rA
     fail_if_success have _:=rB
     fail_if_success have _:=kX
     refine k2 6 18 rfl rfl (fun K hK=>?_) fun K hK=>?_
     case' _=>
      go_simp;refine(hwo x bx).mono ?_;rintro e x ⟨vB,rfl,oB,cN⟩;obtain⟨ba,bc,rfl⟩:=aT oB;have rB:=bS.aS oB
      replace rA:=rA.below cN
      replace bx:=Nm.aC bx cN
      go_wp2_with fail
      refine hK.out _ _ (kS.out _ bx) fun aO=>?_;clear hK K cN oB
     rotate_left 1
     case' _=>
      go_simp;have ca:=(aK x.heap.size x).alloc (aN _) (.cells #[.string ⟨#[]⟩,.slice none 0 0] 25);have kN:=aH x #[.string ⟨#[]⟩,.slice none 0 0] 25;have sN:=bx.size
      replace bx:=Nm.aC bx ca
      replace rA:=rA.below ca
      refine hK.out _ _ (kS.out _ bx) fun aO=>?_;clear hK K;obtain⟨gX,El⟩:∃ g,g=x.heap.size:=⟨_,rfl⟩;rw [<- El] at kN ⊢;have lx:wb.heap.size<=gX:=by omega
      generalize x.alloc (.cells #[.string ⟨#[]⟩,.slice none 0 0] 25)=x at*;have kX:=kN;clear kN El sN ca
    all_goals try
     have _:=rB
     fail_if_success have _:=rA
     fail_if_success have _:=kX
     refine k2 2 18 rfl rfl (fun K hK=>?_) fun K hK=>?_
     case' _=>
      go_simp;have ca:=(aK x.heap.size x).alloc (aN _) (.cells #[.string new.own,.int .i64 new.ty,.int .i64 new.cl,.int .i64 new.tt,.string new.da] 29);have kN:=aH x #[.string new.own,.int .i64 new.ty,.int .i64 new.cl,.int .i64 new.tt,.string new.da] 29;have sN:=bx.size
      replace bx:=Nm.aC bx ca
      replace rB:=rB.below ca
      refine hK.out _ _ (kS.out _ bx) fun aO=>?_;clear hK K;obtain⟨gA,hgA⟩:∃ g,g=x.heap.size:=⟨_,rfl⟩;rw [<- hgA] at kN ⊢;generalize x.alloc (.cells #[.string new.own,.int .i64 new.ty,.int .i64 new.cl,.int .i64 new.tt,.string new.da] 29)=x at*;have rA:=aLf kN;clear kN hgA sN ca
     rotate_left 1
     case' _=>
      go_simp;have ca:=(aK x.heap.size x).alloc (aN _) (.cells #[.string ⟨#[]⟩,.slice none 0 0] 25);have kN:=aH x #[.string ⟨#[]⟩,.slice none 0 0] 25;have sN:=bx.size
      replace bx:=Nm.aC bx ca
      replace rB:=rB.below ca
      refine hK.out _ _ (kS.out _ bx) fun aO=>?_;clear hK K;obtain⟨gX,El⟩:∃ g,g=x.heap.size:=⟨_,rfl⟩;rw [<- El] at kN ⊢;have lx:wb.heap.size<=gX:=by omega
      generalize x.alloc (.cells #[.string ⟨#[]⟩,.slice none 0 0] 25)=x at*;have kX:=kN;clear kN El sN ca
    all_goals try
     have _:=kX
     fail_if_success have _:=rA
     fail_if_success have _:=rB
     refine k2 2 6 rfl rfl (fun K hK=>?_) fun K hK=>?_
     case' _=>
      go_simp;have ca:=(aK x.heap.size x).alloc (aN _) (.cells #[.string new.own,.int .i64 new.ty,.int .i64 new.cl,.int .i64 new.tt,.string new.da] 29);have kN:=aH x #[.string new.own,.int .i64 new.ty,.int .i64 new.cl,.int .i64 new.tt,.string new.da] 29;have sN:=bx.size
      replace bx:=Nm.aC bx ca
      replace kX:=aB kX ca
      refine hK.out _ _ (kS.out _ bx) fun aO=>?_;clear hK K;obtain⟨gA,hgA⟩:∃ g,g=x.heap.size:=⟨_,rfl⟩;rw [<- hgA] at kN ⊢;generalize x.alloc (.cells #[.string new.own,.int .i64 new.ty,.int .i64 new.cl,.int .i64 new.tt,.string new.da] 29)=x at*;have rA:=aLf kN;clear kN hgA sN ca
     rotate_left 1
     case' _=>
      go_simp;refine(hwo x bx).mono ?_;rintro e x ⟨vB,rfl,oB,cN⟩;obtain⟨ba,bc,rfl⟩:=aT oB;have rB:=bS.aS oB
      replace kX:=aB kX cN
      replace bx:=Nm.aC bx cN
      go_wp2_with fail
      refine hK.out _ _ (kS.out _ bx) fun aO=>?_;clear hK K cN oB
    all_goals try
     have _:=rA;have _:=kX
     fail_if_success have _:=rB
     refine k1 6 rfl fun K hK=>?_
     go_simp;refine(hwo x bx).mono ?_;rintro e x ⟨vB,rfl,oB,cN⟩;obtain⟨ba,bc,rfl⟩:=aT oB;have rB:=bS.aS oB
     replace rA:=rA.below cN
     replace kX:=aB kX cN
     replace bx:=Nm.aC bx cN
     go_wp2_with fail
     refine hK.out _ _ (kS.out _ bx) fun aO=>?_;clear hK K cN oB
    all_goals try
     have _:=rB;have _:=kX
     fail_if_success have _:=rA
     refine k1 2 rfl fun K hK=>?_
     go_simp;have ca:=(aK x.heap.size x).alloc (aN _) (.cells #[.string new.own,.int .i64 new.ty,.int .i64 new.cl,.int .i64 new.tt,.string new.da] 29);have kN:=aH x #[.string new.own,.int .i64 new.ty,.int .i64 new.cl,.int .i64 new.tt,.string new.da] 29;have sN:=bx.size
     replace bx:=Nm.aC bx ca
     replace rB:=rB.below ca
     replace kX:=aB kX ca
     refine hK.out _ _ (kS.out _ bx) fun aO=>?_;clear hK K;obtain⟨gA,hgA⟩:∃ g,g=x.heap.size:=⟨_,rfl⟩;rw [<- hgA] at kN ⊢;generalize x.alloc (.cells #[.string new.own,.int .i64 new.ty,.int .i64 new.cl,.int .i64 new.tt,.string new.da] 29)=x at*;have rA:=aLf kN;clear kN hgA sN ca
    all_goals try
     have _:=rA;have _:=rB
     fail_if_success have _:=kC
     fail_if_success have _:=kX
     refine k2 9 18 rfl rfl (fun K hK=>?_) fun K hK=>?_
     case' _=>
      go_simp;have ca:=(aK x.heap.size x).alloc (aN _) (.cells #[.slice (some ⟨gA,0,none⟩) 1 1,.slice ba WD.length bc,.slice aa add.length ac] 30);have kN:=aH x #[.slice (some ⟨gA,0,none⟩) 1 1,.slice ba WD.length bc,.slice aa add.length ac] 30;have sN:=bx.size
      replace bx:=Nm.aC bx ca
      replace rA:=rA.below ca
      replace rB:=rB.below ca
      refine hK.out _ _ (kS.out _ bx) fun aO=>?_;clear hK K;obtain⟨gC,Jl⟩:∃ g,g=x.heap.size:=⟨_,rfl⟩;rw [<- Jl] at kN ⊢;generalize x.alloc (.cells #[.slice (some ⟨gA,0,none⟩) 1 1,.slice ba WD.length bc,.slice aa add.length ac] 30)=x at*;have kC:=kN;clear kN Jl sN ca
     rotate_left 1
     case' _=>
      go_simp;have ca:=(aK x.heap.size x).alloc (aN _) (.cells #[.string ⟨#[]⟩,.slice none 0 0] 25);have kN:=aH x #[.string ⟨#[]⟩,.slice none 0 0] 25;have sN:=bx.size
      replace bx:=Nm.aC bx ca
      replace rA:=rA.below ca
      replace rB:=rB.below ca
      refine hK.out _ _ (kS.out _ bx) fun aO=>?_;clear hK K;obtain⟨gX,El⟩:∃ g,g=x.heap.size:=⟨_,rfl⟩;rw [<- El] at kN ⊢;have lx:wb.heap.size<=gX:=by omega
      generalize x.alloc (.cells #[.string ⟨#[]⟩,.slice none 0 0] 25)=x at*;have kX:=kN;clear kN El sN ca
    all_goals try
     have _:=rA;have _:=rB;have _:=kX
     fail_if_success have _:=kC
     refine k1 9 rfl fun K hK=>?_
     go_simp;have ca:=(aK x.heap.size x).alloc (aN _) (.cells #[.slice (some ⟨gA,0,none⟩) 1 1,.slice ba WD.length bc,.slice aa add.length ac] 30);have kN:=aH x #[.slice (some ⟨gA,0,none⟩) 1 1,.slice ba WD.length bc,.slice aa add.length ac] 30;have sN:=bx.size
     replace bx:=Nm.aC bx ca
     replace rA:=rA.below ca
     replace rB:=rB.below ca
     replace kX:=aB kX ca
     refine hK.out _ _ (kS.out _ bx) fun aO=>?_;clear hK K;obtain⟨gC,Jl⟩:∃ g,g=x.heap.size:=⟨_,rfl⟩;rw [<- Jl] at kN ⊢;generalize x.alloc (.cells #[.slice (some ⟨gA,0,none⟩) 1 1,.slice ba WD.length bc,.slice aa add.length ac] 30)=x at*;have kC:=kN;clear kN Jl sN ca
    all_goals try
     have _:=kC
     fail_if_success have _:=kX
     refine k2 10 18 rfl rfl (fun K hK=>?_) fun K hK=>?_
     case' _=>
      go_simp;refine(hcn x bx _ _ gC kC rA rB).mono ?_;rintro e x ⟨vD,rfl,oD,cN⟩;obtain⟨qa,qc,rfl⟩:=aT oD;have rD:=bS.aS oD;clear rA rB kC
      replace bx:=Nm.aC bx cN
      go_wp2_with fail
      refine hK.out _ _ (kS.out _ bx) fun aO=>?_;clear hK K cN oD
     rotate_left 1
     case' _=>
      go_simp;have ca:=(aK x.heap.size x).alloc (aN _) (.cells #[.string ⟨#[]⟩,.slice none 0 0] 25);have kN:=aH x #[.string ⟨#[]⟩,.slice none 0 0] 25;have sN:=bx.size
      replace bx:=Nm.aC bx ca
      replace rA:=rA.below ca
      replace rB:=rB.below ca
      replace kC:=aB kC ca
      refine hK.out _ _ (kS.out _ bx) fun aO=>?_;clear hK K;obtain⟨gX,El⟩:∃ g,g=x.heap.size:=⟨_,rfl⟩;rw [<- El] at kN ⊢;have lx:wb.heap.size<=gX:=by omega
      generalize x.alloc (.cells #[.string ⟨#[]⟩,.slice none 0 0] 25)=x at*;have kX:=kN;clear kN El sN ca
    all_goals try
     have _:=kC;have _:=kX;refine k1 10 rfl fun K hK=>?_
     go_simp;refine(hcn x bx _ _ gC kC rA rB).mono ?_;rintro e x ⟨vD,rfl,oD,cN⟩;obtain⟨qa,qc,rfl⟩:=aT oD;have rD:=bS.aS oD;clear rA rB kC
     replace kX:=aB kX cN
     replace bx:=Nm.aC bx cN
     go_wp2_with fail
     refine hK.out _ _ (kS.out _ bx) fun aO=>?_;clear hK K cN oD
    all_goals try
     have _:=rD
     fail_if_success have _:=kX
     refine k2 13 18 rfl rfl (fun K hK=>?_) fun K hK=>?_
     case' _=>
      go_simp;have sE:=bx.size;refine(vY x _ rD).mono ?_;rintro e x ⟨oz,vz,ix,rfl,pz,cN⟩;obtain⟨za,zn,zc,rfl⟩:=pz.sl;clear rD
      replace bx:=Nm.aC bx cN
      go_wp2_with fail
      refine hK.out _ _ (kS.out _ bx) fun aO=>?_;clear hK K cN;refine kP 14 rfl ?_;refine kP 15 rfl ?_;refine kP 16 rfl ?_;refine kP 17 rfl ?_
     rotate_left 1
     case' _=>
      go_simp;have ca:=(aK x.heap.size x).alloc (aN _) (.cells #[.string ⟨#[]⟩,.slice none 0 0] 25);have kN:=aH x #[.string ⟨#[]⟩,.slice none 0 0] 25;have sN:=bx.size
      replace bx:=Nm.aC bx ca
      replace rD:=rD.below ca
      refine hK.out _ _ (kS.out _ bx) fun aO=>?_;clear hK K;obtain⟨gX,El⟩:∃ g,g=x.heap.size:=⟨_,rfl⟩;rw [<- El] at kN ⊢;have lx:wb.heap.size<=gX:=by omega
      generalize x.alloc (.cells #[.string ⟨#[]⟩,.slice none 0 0] 25)=x at*;have kX:=kN;clear kN El sN ca
    all_goals try
     have _:=rD;have _:=kX;refine k1 13 rfl fun K hK=>?_
     go_simp;have lY:=bU kX;have sE:=bx.size;refine(vY x _ rD).mono ?_;rintro e x ⟨oz,vz,ix,rfl,pz,cN⟩;obtain⟨za,zn,zc,rfl⟩:=pz.sl;have fz:=(Pz.far (g:=gX) (i:=1) (y:=.slice za zn zc) (Pz.far (g:=gX) (i:=0) (y:=.string oz) pz (by omega)) (by omega)).base sE;clear rD
     replace kX:=aB kX cN
     replace bx:=Nm.aC bx cN
     go_wp2_with fail
     refine hK.out _ _ (kS.out _ bx) fun aO=>?_;clear hK K cN;refine kP 14 rfl ?_;refine kP 15 rfl ?_;refine kP 16 rfl ?_;refine kP 17 rfl ?_;clear pz sE lY
    all_goals try
     have _:=pz;refine k1 18 rfl fun K hK=>?_
     go_simp;have ca:=(aK x.heap.size x).alloc (aN _) (.cells #[.string ⟨#[]⟩,.slice none 0 0] 25);have kN:=aH x #[.string ⟨#[]⟩,.slice none 0 0] 25;have sN:=bx.size
     replace bx:=Nm.aC bx ca
     refine hK.out _ _ (kS.out _ bx) fun aO=>?_;clear hK K;obtain⟨gX,El⟩:∃ g,g=x.heap.size:=⟨_,rfl⟩;rw [<- El] at kN ⊢;have lx:wb.heap.size<=gX:=by omega
     have fz:=(pz.below (eP (by omega:x.heap.size<=gX) [.string oz,.slice za zn zc] 0 _ ca)).base sE;generalize x.alloc (.cells #[.string ⟨#[]⟩,.slice none 0 0] 25)=x at*;have kX:=kN;clear kN El sN ca pz sE
    all_goals
     have rk:=fun i=>aA kX i
     have fk:=fun i=>aG kX i
     have kF:=dJ [.string oz,.slice za zn zc] kX rfl;have HX:=Nm.aF (aV fz (eP lx [.string oz,.slice za zn zc] 0 _ bx));simp only [cO,Nat.zero_add] at kF HX;refine k1 19 rfl fun K hK=>?_
     go_simp;refine hK.out _ _ (kS.out _ HX.out.2) fun aO=>?_;clear hK K;refine kP 20 rfl ?_;refine kP 21 rfl ?_;refine kN ?_;go_wp2_with fail
     go_meet;exact⟨gX,oz,_,_,rfl,rfl,rfl,lx,kF,HX.out.1,HX.out.2⟩
   obtain⟨c,oz,vz,ix,rfl,rfl,rfl,hc,Iq,pz,bx⟩:=hcut;obtain⟨za,zn,zc,rfl⟩:=pz.sl;have kcX:=aB kcb bx;have bwX:=Nm.aC bwb bx;have kX:=dJ [.string oz,.slice za zn zc] kcX rfl;have HX:Hid (Pz R PL o (cO wc (w.heap.size+2) 0 [.string oz,.slice za zn zc]) w.heap.size oz (.slice za zn zc)∧Below w.heap.size w (cO wc (w.heap.size+2) 0 [.string oz,.slice za zn zc])):=⟨(Pz.far (Pz.far pz (by omega)) (by omega)).base (by omega),eP (Nat.le_add_right _ _) _ 0 _ bwX⟩;simp only [cO,Nat.zero_add] at kX HX;have rX:=fun i=>aA kX i
   have r9:=fun i=>aA Iq i
   have rk:=fun i=>aA kcX i
   have fk:=fun i=>aG kcX i
   clear kX kS bd hcn vY hwo;go_wp2;refine gD (v:=.tuple #[.agg #[.string oz,.slice za zn zc],.int .i64 R]) ?_ rfl ⟨_,_,rfl,HX.out.1,HX.out.2⟩;simp [results,Tryz.f24,go_sem,rX]
theorem OA(o:ByteArray)(v d a:Value)(ps:List Zp)(old new:Rr)(del add:List Rr)(w:World)(h:gI w v ps)(hd:bS w d del.length 5 (bK del))(Jn:bS w a add.length 5 (bK add))(hs:rG ps<=1048576)(hf:∀ p∈ps,p.1.own.size<=1048576∧∀ x∈p.1.da,x.size<=1048576)(ho:o.size<=1048576)(yN:old.da.size<=1048576)(hfn:xN new∧new.own.size<=1048576∧new.da.size<=1048576)(Dk:∀ x∈del,xN x)(hfa:∀ x∈add,x.own.size<=1048576∧x.da.size<=1048576):
 Calls Tryz.prog 7 #[.agg #[.string o,v],Sy old new d a] w (aIg (ptC ps o old new del add) (pzL ps new del add) o w):=by
 obtain⟨va,vc,rfl⟩:∃ va vc,v=.slice va ps.length vc:=by obtain⟨⟨_,a,c,e,_⟩,_⟩:=h;exact⟨a,c,e⟩
 obtain⟨da,dc,rfl⟩:∃ da dc,d=.slice da del.length dc:=by obtain⟨_,a,c,e,_⟩:=hd;exact⟨a,c,e⟩
 obtain⟨aa,ac,rfl⟩:∃ aa ac,a=.slice aa add.length ac:=by obtain⟨_,a,c,e,_⟩:=Jn;exact⟨a,c,e⟩
 obtain⟨R,HR⟩:∃ R,Hid (R=ptC ps o old new del add):=⟨_,rfl⟩;rw [<- HR.out];obtain⟨W0,lF⟩:∃ W0,W0=((w.alloc (.cells #[.string o,.slice va ps.length vc] 25)).alloc (.cells (JN old new (.slice da del.length dc) (.slice aa add.length ac)).toArray 32)).alloc (.cells #[.string ⟨#[]⟩,.slice none 0 0] 25):=⟨_,rfl⟩
 have b0:Below w.heap.size w W0:=by
  rw [lF];exact(((aK w.heap.size w).alloc (aN _) _).alloc (by simp) _).alloc (by simp;omega) _
 have ky:bG W0 w.heap.size #[.string o,.slice va ps.length vc] 25:=by
  rw [lF];exact aR (aR (aH w #[.string o,.slice va ps.length vc] 25) _) _
 have kz:bG W0 (w.heap.size+1) (JN old new (.slice da del.length dc) (.slice aa add.length ac)).toArray 32:=by
  rw [lF];have:=aH (w.alloc (.cells #[.string o,.slice va ps.length vc] 25)) (JN old new (.slice da del.length dc) (.slice aa add.length ac)).toArray 32;rw [fV] at this;exact aR this _
 have kc:bG W0 (w.heap.size+2) #[.string ⟨#[]⟩,.slice none 0 0] 25:=by
  rw [lF];have:=aH ((w.alloc (.cells #[.string o,.slice va ps.length vc] 25)).alloc (.cells (JN old new (.slice da del.length dc) (.slice aa add.length ac)).toArray 32)) #[.string ⟨#[]⟩,.slice none 0 0] 25;rw [fV,fV] at this;exact this
 have z0:W0.heap.size=w.heap.size+3:=by rw [lF];simp
 have Jj:=sM o _ ps W0 (h.below b0) hs hf (by omega);have ry:=fun i=>aA ky i
 cases hz:pI ps o
 ·have HN:Hid (R=32):=by show _=_;rw [HR.out,ptC,if_neg (by rw [hz];decide)]
  rw [hz,if_neg (by decide)] at Jj;rw [lF] at Jj;clear HR;go_enter Tryz.func7,Tryz.ntmps7;go_wp2_with fail
  rw [<- lF] at Jj ⊢;clear lF;go_at_call 21
  refine Jj.mono ?_;rintro e w1 ⟨rfl,b1⟩;have mO:=Nm.aC b0 b1;have DY:=aB kc b1;have rk:=fun i=>aA DY i
  have fk:=fun i=>aG DY i
  have kX:=dJ [.string ⟨#[]⟩,.slice none 0 0] DY rfl;have HX:=Nm.aF (eP (Nat.le_add_right _ 2) [.string ⟨#[]⟩,.slice none 0 0] 0 _ mO);simp only [cO,Nat.zero_add] at kX HX;have rX:=fun i=>aA kX i
  clear kX;go_wp2;rw [HN.out];refine gD (v:=.tuple #[.agg #[.string ⟨#[]⟩,.slice none 0 0],.int .i64 32]) ?_ rfl ⟨_,_,rfl,Pz.bad (by decide),HX.out⟩;simp [results,Tryz.f7,go_sem,rX]
 have hpa:=fun W (hW:Below w.heap.size w W)=>aEp o _ _ _ ps old new del add W (h.below hW) (hd.below hW) (Jn.below hW) hz hs hf ho yN hfn Dk hfa
 have HN:Hid (R=pzC ps o old new del add):=by show _=_;rw [HR.out,ptC,if_pos hz]
 rw [<- HN.out] at hpa;rw [hz,if_pos rfl] at Jj;rw [lF] at Jj;clear HR HN;generalize pzL ps new del add=PL at*;go_enter Tryz.func7,Tryz.ntmps7;go_wp2_with fail
 rw [<- lF] at Jj ⊢;clear lF;go_at_call 21
 refine Jj.mono ?_;rintro e w1 ⟨rfl,b1⟩;have mO:=Nm.aC b0 b1;have Zy:=aB ky b1;have uC:=aB kz b1;have DY:=aB kc b1;have z1:=b1.size;have ry1:=fun i=>aA Zy i
 have rz1:=fun i=>aA uC i
 clear ry Jj;go_wp2_with fail
 go_at_call 24
 refine(hpa _ mO).mono ?_;rintro e w2 ⟨oz,vz,rfl,pz,b2⟩;obtain⟨za,zn,zc,rfl⟩:=pz.sl;have EC:=aB DY b2;have vO:=Nm.aC mO b2;have kX:=dJ [.string oz,.slice za zn zc] EC rfl;have HX:Hid (Pz R PL o (cO w2 (w.heap.size+2) 0 [.string oz,.slice za zn zc]) w.heap.size oz (.slice za zn zc)∧Below w.heap.size w (cO w2 (w.heap.size+2) 0 [.string oz,.slice za zn zc])):=⟨(Pz.far (Pz.far pz (by omega)) (by omega)).base (by omega),eP (Nat.le_add_right _ _) _ 0 _ vO⟩;simp only [cO,Nat.zero_add] at kX HX;have rX:=fun i=>aA kX i
 have rk:=fun i=>aA EC i
 have fk:=fun i=>aG EC i
 clear kX ry1 rz1;go_wp2;refine gD (v:=.tuple #[.agg #[.string oz,.slice za zn zc],.int .i64 R]) ?_ rfl ⟨_,_,rfl,HX.out.1,HX.out.2⟩;simp [results,Tryz.f7,go_sem,rX]
