import Derived.Test.YtlddifpnkeafpaaGreatJLoM
import Derived.Test.YtlddifpnkeafpaaGreatJNzP
import Derived.Test.YtlddifpnkeafpaaGreatJZoF
set_option linter.unusedVariables false
set_option maxRecDepth 100000
set_option maxHeartbeats 3200000
namespace Go.Proofs.YtlddifpnkeafpaaGreat
open Go.RowKit
variable {ps:List Zp}
theorem aGv{name:ByteArray}{j:Nat}{q:Zp}(hq:ps[j]? =some q):oH ((ps.take (j+1)).map (·.1)) name=oH ((ps.take j).map (·.1)) name++(if eQ q.1.own name=true then [q.1] else []):=by
 rw [Nm.jJ hq,List.map_append,oH,oH,List.filter_append];congr 1;simp only [List.map_cons,List.map_nil,List.filter_cons,List.filter_nil]
theorem aJn{W wr w1:World}{v:Value}{B e s n:Nat}{l:List Value}(hB:B<=wr.heap.size)
 (aU:wr.ownsRow B e s v n l) (aG:Below B W wr) (o:Obj) (bU:(wr.alloc o).grownBy w1 v.ownBlock):Below B W w1:=by
 refine(aG.alloc hB o).grown bU (by simp;omega) ?_;intro k hk;exact(aU.lt k hk).1
theorem WX(o name:ByteArray)(v:Value)(ps:List Zp)(w:World)(h:gG w v ps)(hl:ps.length<=1048576)(hf:∀ p∈ps,p.1.own.size<=1048576∧p.1.da.length<=1048576)(hn:name.size<=maxLen):
 Calls Tryz.prog 47 #[.agg #[.string o,v],.string name] w fun e w'=>∃ u qs,e=.returned u∧qs.map (·.1)=oH (ps.map (·.1)) name∧dF w' w.heap.size u qs∧Below w.heap.size w w':=by
 obtain⟨va,vc,rfl⟩:=mX h;obtain⟨i0,hi,iQ,iH,iI⟩:=info_parts Tryz.XG;have b0:=(aJ w.heap.size w).alloc (aI _) (.cells #[.string o,.slice va ps.length vc] 25);have k0:=aK w #[.string o,.slice va ps.length vc] 25;have HSm:=Nm.aD (fun(x:ByteArray) (hx:x.size<=1048576) W=>gM x name W (by unfold maxLen;omega) hn);have HZ:=Nm.aD (fun W (hW:Below w.heap.size w W)=>h.below hW);have HF:=Nm.aD hf;have HG:Hid (∀ W,Below w.heap.size w W->w.heap.size<=W.heap.size):=fun W hW=>hW.size
 have o0:=World.ownsRow_made (base:=w.heap.size) (e:=42) (size:=4) (w.alloc (.cells #[.string o,.slice va ps.length vc] 25)) #[] 0 b0.size (by decide) rfl;rw [jO] at o0;have b1:=b0.alloc b0.size (.cells #[] 42);have k1:=bD k0 (.cells #[] 42);obtain⟨R,hR⟩:∃ R,R=oH (ps.map (·.1)) name:=⟨_,rfl⟩;rw [<- hR];have HR:=Nm.aD hR;clear h hf hR b0 k0;go_enter Tryz.func47,Tryz.ntmps47;go_wp2;generalize AQ:w.heap.size=g at*;have WT:=Nm.aD AQ;clear AQ
 go_loopw [5,6] (fun v i wr=>∃ (j:Nat) (qs:List Zp),j<=ps.length∧i=.int .i64 j∧Hid (qs.length<=j)∧Hid (qs.map (·.1)=oH ((ps.take j).map (·.1)) name)∧dF wr g v qs∧Below g w wr∧bW wr g #[.string o,.slice va ps.length vc] 25) (fun _ i _=>ps.length-(intOf i).toNat)
 ·exact⟨0,[],dR _,rfl,aI _,rfl,⟨o0,by simp,by simp⟩,b1,k1⟩
 clear b1 k1 o0;obtain⟨j,qs,hj,rfl,HL,HT,zo,hb,kz⟩:=hrel;have rz:=aA kz
 have Mv:=HG.out _ hb;obtain⟨oa,oc,rfl⟩:=aT zo.outer
 by_cases bY:j<ps.length
 ·obtain⟨q,hq⟩:=gQ bY;obtain⟨⟨_,a9,c9,e9,_,_,CR⟩,NV⟩:=HZ.out _ hb;simp only [gK] at e9;obtain⟨rfl,_,rfl⟩:=e9;obtain⟨b,off,rfl,aH⟩:=CR (by omega);obtain⟨d0,d1,d2,d3⟩:=iE aH hq;have hfq:=HF.out q (dA hq);have xK:=HSm.out q.1.own hfq.1 wr;have HSR:=Nm.aD (NV q (dA hq));have n1:=fE j
  have n2:(j:Int)<(ps.length:Int):=by omega
  have RJ:Hid (oH ((ps.take (j+1)).map (·.1)) name=qs.map (·.1)++(if eQ q.1.own name=true then [q.1] else [])):=by show _=_;rw [aGv hq,HT.out]
  clear CR NV aH hq;obtain⟨⟨x,ty,tt,ds⟩,u⟩:=q;simp only at d0 d1 d2 d3 xK RJ HSR hfq
  obtain⟨ua,uc,hu⟩:∃ ua uc,u=.slice ua ds.length uc:=by obtain⟨a,c,e,_⟩:=HSR.out;exact⟨a,c,e⟩
  subst hu
  cases rW:eQ x name with
  |true=>
   rw [rW] at xK RJ;simp only [if_true] at RJ;clear rW HT;go_wp2_with fail
   refine xK.mono ?_;rintro e w1 ⟨rfl,b1⟩;have FY:=aB kz b1;have rz1:=aA FY
   have up:=fun {O:Nat} {z:Value} (hz:wr.cell? ⟨b,O,none⟩=some z)=>(b1.cell (fD wr _ hz)).trans hz
   have f0:=up d0;have f1:=up d1;have f2:=up d2;have f3:=up d3;have z1:=zo.below b1;have gP:=hb.trans (b1.mono Mv);have aGu:=HG.out _ gP;have rT:=JV ⟨x,ty,tt,ds⟩ (.slice ua ds.length uc) w1 (HSR.out.below b1) (by simp only;omega);clear up d0 d1 d2 d3 rz kz hb zo xK b1;go_wp2_with fail
   refine rT.mono ?_;rintro e w2 ⟨cu,rfl,hcu,b2⟩;obtain⟨ca,cc,rfl⟩:=aT hcu;have uI:=aB FY b2;have z2:=z1.below b2;have kH:=gP.trans (b2.mono aGu);have aRz:=HG.out _ kH
   have xZ:∀ p∈qs,∀ g',p.2.ownBlock=some g'->(Value.slice ca ds.length cc).ownBlock≠some g':=fun p hp g' e e'=>by
    obtain⟨i,hi⟩:=List.getElem?_of_mem hp;have h8:=((z1.inner i p hi).lt g' e).2;have h9:=(hcu.lt g' e').1;omega
   have HU:=Nm.aD (aV (fM hcu aGu) xZ);have aJo:=z2.outer;have hqm:qs.length<=1048576:=by have:=HL.out;omega
   clear rT rz1 f0 f1 f2 f3 xZ hcu b2 z1 FY gP aGu;go_wp2_with (at_builtin;refine wpList_append_own _ rfl (.tmp 23) (.tmp 30) 23 rfl g 42 i0 (.agg #[.string ByteArray.empty,.int .i64 0,.int .i64 0,.slice none 0 0]) 4 56 Tryz.underlying23 hi iQ iH iI rfl (by decide) _ _ _ rfl (aJo.alloc _) ⟨w2.heap.size,0,none⟩ 1 1 [.string x,.int .i64 ty,.int .i64 tt,.slice ca ds.length cc] rfl rfl (eZ w2 #[.string x,.int .i64 ty,.int .i64 tt,.slice ca ds.length cc] 42) (by intro u hu;simp at hu;rcases hu with rfl|rfl|rfl|rfl<;>rfl) (by unfold maxLen;omega) (by omega) (by simp;omega) ?_)
   intro v' w6 oC bU _;have ca6:=(aJ w2.heap.size w2).alloc (aI _) (.cells #[.string x,.int .i64 ty,.int .i64 tt,.slice ca ds.length cc] 42);have z6:=dF.snoc (s:=⟨x,ty,tt,ds⟩) (u:=.slice ca ds.length cc) (z2.below ca6) (own_below HU.out.1 ca6) HU.out.2 oC bU;have hb6:=aJn aRz aJo kH _ bU;have kz6:=aO (bD uI _) bU (dD aJo uI (by decide));have HT6:Hid ((qs++[((⟨x,ty,tt,ds⟩:Sz),Value.slice ca ds.length cc)]).map (·.1)=oH ((ps.take (j+1)).map (·.1)) name):=by show _=_;rw [RJ.out];simp
   have HL6:Hid ((qs++[((⟨x,ty,tt,ds⟩:Sz),Value.slice ca ds.length cc)]).length<=j+1):=by show _<=_;have:=HL.out;simp;omega
   clear bU aJo uI kH z2 RJ oC ca6;go_wp2;go_roundw
   ·exact⟨j+1,_,bY,by go_num,HL6,HT6,z6,hb6,kz6⟩
   simp [intOf];omega
  |false=>
   rw [rW] at xK RJ;have HT2:Hid (qs.map (·.1)=oH ((ps.take (j+1)).map (·.1)) name):=by show _=_;rw [RJ.out];simp
   have HL2:Hid (qs.length<=j+1):=Nat.le_succ_of_le HL.out;clear rW HT RJ;go_wp2_with (go_at_call 13;refine xK.mono ?_;rintro e w1 ⟨rfl,b1⟩)
   go_roundw
   ·exact⟨j+1,qs,bY,by go_num,HL2,HT2,zo.below b1,hb.trans (b1.mono Mv),aB kz b1⟩
   simp [intOf];omega
 obtain rfl:j=ps.length:=by omega
 have HE:Hid (qs.map (·.1)=R):=by show _=_;rw [HR.out,HT.out,List.take_length]
 clear HT;go_wp2;go_ret;rw [WT.out];exact⟨_,qs,rfl,HE.out,zo,hb⟩
open Go.Shelf
theorem I5(name:ByteArray)(v:Value)(ps:List Zp)(B:Nat)(w:World)(hz:dF w B v ps)(hl:ps.length<=1048576):
 Calls Tryz.prog 51 #[v,.string name] w fun e w'=>e=.returned v∧dF w' B v (ps.map (xC name))∧Below B w w':=by
 obtain⟨va,vc,rfl⟩:=aT hz.outer;go_enter Tryz.func51,Tryz.ntmps51;go_wp2_with fail
 go_loopw [5] (fun i wr=>∃ (k:Nat),k<=ps.length∧i=.int .i64 k∧dF wr B (.slice va ps.length vc) ((ps.map (xC name)).take k++ps.drop k)∧Below B w wr) (fun i _=>ps.length-(intOf i).toNat)
 ·exact⟨0,dR _,rfl,by simpa using hz,aJ _ _⟩
 clear hz;obtain⟨k,hk,rfl,zk,bk⟩:=hrel
 by_cases bY:k<ps.length
 ·obtain⟨p,hp⟩:=gQ bY;have Fe:=Cw (name:=name) hk
  obtain⟨gv,hva⟩:∃ gv,va=some ⟨gv,0,none⟩:=by
   have ho:=zk.outer;rw [Fe] at ho;obtain⟨m,hm⟩:∃ m,ps.length=m+1:=⟨ps.length-1,by omega⟩;rw [hm] at ho;obtain⟨gv,cap,e⟩:=ownsRow_succ ho;simp only [gK] at e;exact⟨gv,e.1⟩
  subst hva;have n1:=fE k
  have n2:(k:Int)<(ps.length:Int):=by omega
  have aH:wr.cell? ⟨gv,k*4,none⟩=some (.string p.1.own):=by
   have ho:=zk.outer;rw [Fe] at ho;rw [ho.cellAt (k*4) (by omega)];exact(lH _ k 0 p (YC hp) (by decide)).trans rfl
  have Xf:∀ i,wr.frozen? ⟨gv,i,none⟩=false:=by
   have ho:=zk.outer;rw [Fe] at ho;exact ho.frozenAt
  have z2:=dF.cell (i:=0) (y:=.string name) (q:=xC name p) zk Fe.symm (YC hp) (by decide) rfl rfl rfl;rw [Nat.add_zero,Vd hp] at z2;have b2:Below B w (wr.setCell ⟨gv,k*4,none⟩ (.string name)):=bk.setCell (p:=⟨gv,k*4,none⟩) (zk.outer.lt gv rfl).1 _;clear zk bk Fe hp;go_wp2;go_roundw
  ·exact⟨k+1,bY,by go_num,z2,b2⟩
  simp [intOf];omega
 obtain rfl:k=ps.length:=by omega
 have e1:(ps.map (xC name)).take ps.length++ps.drop ps.length=ps.map (xC name):=by rw [List.drop_length,List.append_nil,<- List.length_map (f:=xC name),List.take_length]
 rw [e1] at zk;clear e1;go_wp2;go_ret;exact⟨rfl,zk,bk⟩
theorem Vj(x:ByteArray)(w:World)(hx:x.size<=1000000000):
 Calls Tryz.prog 49 #[.string x] w fun e w'=>e=.returned (.string (xB x))∧w'=w:=by
 have n1:¬9223372036854775807<2+x.size:=by omega
 unfold xB;go_enter Tryz.func49,Tryz.ntmps49;go_wp2;go_ret;exact⟨rfl,rfl⟩
theorem aCq{th:ByteArray->Bool}{y:List ByteArray}(h:th (mJ y)=true):xA th y=y:=by
 cases y with
 |nil=>rfl
 |cons x xs=>rw [xA,if_pos h]
theorem aJp{th:ByteArray->Bool}{y:List ByteArray}(h:th (mJ y)=false)(hex:∃ j,j<=y.length∧th (mJ (y.drop j))=true):0<y.length∧xA th y=xA th (y.drop 1)∧∃ j,j<=(y.drop 1).length∧th (mJ ((y.drop 1).drop j))=true:=by
 obtain⟨j,hj,ht⟩:=hex
 cases j with
 |zero=>rw [List.drop_zero,h] at ht;cases ht
 |succ j=>
  cases y with
  |nil=>simp at hj
  |cons x xs=>
   refine⟨by simp,?_,j,by simpa using hj,by simpa using ht⟩;rw [xA,if_neg (by rw [h];decide)];rfl
theorem aMi{name:ByteArray}{lab:List ByteArray}(h:Nm.split name=some lab){k:Nat}(hk:k<=lab.length):WC name k=(mJ (lab.drop k),0):=by
 rw [WC,h]
 show(if _ then _ else _)=_
 rw [if_pos (by constructor<;>omega)];simp [mJ]
theorem aPu(ls:List ByteArray):mJ ls≠⟨#[]⟩:=by
 intro e;have h:=congrArg ByteArray.size e;simp [mJ,ByteArray.size,Nm.joinL] at h
theorem aGw{a:ByteArray}(h:a≠⟨#[]⟩):0<a.size:=Nat.pos_of_ne_zero fun e=>h (by
 cases a with|mk d=>
 congr
 exact Array.eq_empty_of_size_eq_zero e)
theorem Vk(o name:ByteArray)(lab:List ByteArray)(v:Value)(ps:List Zp)(w:World)(h:gG w v ps)(hl:ps.length<=1048576)(hf:∀ p∈ps,p.1.own.size<=1048576)(hn:Nm.split name=some lab)(ho:o.size<=maxLen)(hex:cZ name o=true->∃ j,j<=lab.length∧wZ ps o (mJ (lab.drop j))=true):
 Calls Tryz.prog 44 #[.agg #[.string o,v],.string name] w (NdV (tX ps o name) w):=by
 obtain⟨va,vc,rfl⟩:=mX h;have DC:=iP hn;have hns:name.size<=255:=(Nm.dK hn).2;have YQ:lab.length<=254:=jN (Nm.bL lab) DC.2;have b0:=(aJ w.heap.size w).alloc (aI _) (.cells #[.string o,.slice va ps.length vc] 25);have b1:=b0.alloc b0.size (.cells #[.int .i64 0,.string ⟨#[]⟩,.string ⟨#[]⟩,.slice none 0 0] 38);have k1:=bD (aK w #[.string o,.slice va ps.length vc] 25) (.cells #[.int .i64 0,.string ⟨#[]⟩,.string ⟨#[]⟩,.slice none 0 0] 38);have kN:=aK (w.alloc (.cells #[.string o,.slice va ps.length vc] 25)) #[.int .i64 0,.string ⟨#[]⟩,.string ⟨#[]⟩,.slice none 0 0] 38;rw [jO] at kN;have sN:=CY.start kN (Nat.le_succ _) b1 (aJ _ _);have kZ:=bD k1 (.cells #[.int .i64 0,.string ⟨#[]⟩,.string ⟨#[]⟩,.slice none 0 0] 38);rw [jO,jO] at sN;have HU:=Nm.aD (fun W=>iA name o W (by unfold maxLen;omega) ho)
 have HA:Hid (∀ (k:Nat),k<=lab.length->∀ W,Calls Tryz.prog 89 #[.string name,.int .i64 k] W fun e w'=>e=.returned (.tuple #[.string (mJ (lab.drop k)),.int .i64 0])∧Below W.heap.size W w'):=fun k hk W=>by
  have:=TH name k W (by unfold maxLen;omega)
  rwa [aMi hn hk] at this
 have HT:Hid (∀ (k:Nat) W,Below w.heap.size w W->Calls Tryz.prog 50 #[.agg #[.string o,.slice va ps.length vc],.string (mJ (lab.drop k))] W fun e w'=>e=.returned (.bool (wZ ps o (mJ (lab.drop k))))∧Below W.heap.size W w'):=fun k W hW=>QR o _ _ ps W (h.below hW) hf (by have:=QQ (DC.drop k);unfold maxLen;omega) ho
 have HX:Hid (∀ W,Below w.heap.size w W->Calls Tryz.prog 90 #[.agg #[.string o,.slice va ps.length vc],.string name] W fun e w'=>e=.returned (.string (uY (ps.map (·.1)) o name))∧Below W.heap.size W w'):=fun W hW=>I1 o name _ ps W (h.below hW) hf (by unfold maxLen;omega) ho
 have HY:Hid (∀ W,Below w.heap.size w W->Calls Tryz.prog 91 #[.agg #[.string o,.slice va ps.length vc],.string name] W fun e w'=>∃ u,e=.returned u∧w'.ownsRow W.heap.size 2 1 u (rO (ps.map (·.1)) name).length (intCells (rO (ps.map (·.1)) name))∧Below W.heap.size W w'):=fun W hW=>Mj o name _ ps W (h.below hW) hl hf (by unfold maxLen;omega)
 have HTL:Hid ((rO (ps.map (·.1)) name).length<=1048576):=by have h1:=aGt (ps.map (·.1)) name;rw [List.length_map] at h1;exact jN h1 hl
 have HSm:=Nm.aD (fun(x:ByteArray) (hx:x.size<=1048576) W=>gM x name W (by unfold maxLen;omega) (by unfold maxLen;omega))
 have HCS:Hid ((uY (ps.map (·.1)) o name).size<=1048576):=by
  show _<=_
  rcases EK o name (fun s hs=>Lv hs) (ps.map (·.1)) with⟨z1,-⟩|⟨z,hz,z1,-⟩
  ·rw [z1];decide
  obtain⟨p,hp,rfl⟩:=kJ hz;rw [z1];exact hf p hp
 obtain⟨R,hR⟩:∃ R,R=tX ps o name:=⟨_,rfl⟩;rw [<- hR];rw [tX,hn] at hR;have FQ:=HU.out;have rz:=aA kZ
 have rn:=aA sN.k
 have fn:=aF sN.k
 clear h hf k1 kN b0 b1;cases xR:cZ name o
 ·rw [xR] at hR FQ;have KO:R=⟨0,⟨#[]⟩,⟨#[]⟩,[]⟩:=hR;subst KO;clear xR hR HA HT HX HY HSm HCS hex;go_enter Tryz.func44,Tryz.ntmps44;go_wp2_with fail
  refine(FQ _).mono ?_;rintro e w1 ⟨rfl,b1⟩;have s0:=sN.below b1;have rp:=aA s0.k
  have fz:=aF s0.z
  have rzz:=aA s0.z
  obtain⟨k4,hP⟩:=s0.done;have rk:=aA k4
  have HP:=Nm.aD hP;clear s0 k4 hP sN kZ rz rn fn;go_wp2_with fail
  refine eB (v:=.agg #[.int .i64 0,.string ⟨#[]⟩,.string ⟨#[]⟩,.slice none 0 0]) ?_ rfl HP.out;simp [results,Tryz.f44,go_sem,rk]
 rw [xR] at hR FQ;simp only [if_true,Option.getD_some] at hR;have HR:=Nm.aD hR;have HEX:=Nm.aD (hex xR);clear xR hR hex;go_enter Tryz.func44,Tryz.ntmps44;go_wp2_with fail
 refine(FQ _).mono ?_;rintro e w1 ⟨rfl,b1⟩;have s1:=sN.below b1;have KQ:=aB kZ b1;clear sN kZ rz rn fn FQ b1;go_wp2
 go_loopw [6] (fun i wr=>∃ (k:Nat) (cb:ByteArray),i=.int .i64 k∧CY w wr (w.heap.size+1) (w.heap.size+1+1) (.int .i64 0) (.string cb) (.string ⟨#[]⟩) (.slice none 0 0) []∧bW wr w.heap.size #[.string o,.slice va ps.length vc] 25∧((cb=⟨#[]⟩∧k<=lab.length∧Hid (xA (wZ ps o) (lab.drop k)=xA (wZ ps o) lab∧∃ j,j<=(lab.drop k).length∧wZ ps o (mJ ((lab.drop k).drop j))=true))∨cb=mJ (xA (wZ ps o) lab))) (fun i _=>lab.length+1-(intOf i).toNat)
 ·exact⟨0,⟨#[]⟩,rfl,s1,KQ,.inl ⟨rfl,dR _,rfl,HEX.out⟩⟩
 clear s1 KQ HEX;obtain⟨k,cb,rfl,sk,kz,mI⟩:=hrel;have rn:=aA sk.k
 have fn:=aF sk.k
 have rz:=aA kz
 rcases mI with⟨rfl,hk,HJ⟩|rfl
 ·have ha:=HA.out k hk wr;have HT:=Nm.aD (HT.out k);have HTS:Hid (wZ ps o (mJ (lab.drop k))=true->mJ (lab.drop k)=mJ (xA (wZ ps o) lab)):=fun h=>by rw [<- HJ.out.1,aCq h]
  have HTG:Hid (wZ ps o (mJ (lab.drop k))=false->k+1<=lab.length∧(xA (wZ ps o) (lab.drop (k+1))=xA (wZ ps o) lab∧∃ j,j<=(lab.drop (k+1)).length∧wZ ps o (mJ ((lab.drop (k+1)).drop j))=true)):=fun h=>by
   obtain⟨g1,g2,g3⟩:=aJp h HJ.out.2;rw [List.length_drop] at g1;rw [List.drop_drop] at g2 g3;exact⟨by omega,by rw [<- g2];exact HJ.out.1,g3⟩
  clear HJ;generalize mJ (lab.drop k)=JB at*;go_wp2_with fail
  refine ha.mono ?_;rintro e w2 ⟨rfl,b2⟩;have s2:=sk.below b2;have uI:=aB kz b2;have rz2:=aA uI
  have ht:=HT.out _ s2.be;clear sk kz rn fn rz b2 ha HT
  cases MR:wZ ps o JB with
  |true=>
   rw [MR] at ht;have HJ:=Nm.aD (HTS.out MR);clear MR HTS HTG;go_wp2_with fail
   refine ht.mono ?_;rintro e w3 ⟨rfl,b3⟩;have s3:=s2.below b3;have s4:=s3.set1 (y:=.string JB);have fn:=aF s3.k
   have rn:=aA s3.k
   have NQ:=eU (i:=1) (v:=.string JB) (aB uI b3) (c:=w.heap.size+1+1) (by omega);clear s2 s3 uI rz2 b3 ht;go_wp2;go_roundw
   ·exact⟨k+1,JB,by go_num,s4,NQ,.inr HJ.out⟩
   simp [intOf];omega
  |false=>
   rw [MR] at ht;have HJ:=Nm.aD (HTG.out MR);clear MR HTS HTG;go_wp2_with (go_at_call 50;refine ht.mono ?_;rintro e w3 ⟨rfl,b3⟩)
   go_roundw
   ·exact⟨k+1,⟨#[]⟩,by go_num,s2.below b3,aB uI b3,.inl ⟨rfl,HJ.out.1,HJ.out.2⟩⟩
   simp [intOf];omega
 have dM:=aPu (xA (wZ ps o) lab);generalize mJ (xA (wZ ps o) lab)=CB at*;obtain⟨m1,m2⟩:=iR (s:=CB) (aGw dM);have hx:=HX.out _ sk.be;have U9:=HR.out;clear HA HT dM HU HX;generalize uY (ps.map (·.1)) o name=CX at*;go_wp2_with fail
 refine hx.mono ?_;rintro e w2 ⟨rfl,b2⟩;have s2:=sk.below b2;have s3:=s2.set2 (y:=.string CX);have fn2:=aF s2.k
 have rn2:=aA s2.k
 have uD:=eU (i:=2) (v:=.string CX) (aB kz b2) (c:=w.heap.size+1+1) (by omega);have rz3:=aA uD
 have hy:=HY.out _ s3.be;clear sk s2 kz rn fn rz b2 hx HY uD;go_wp2_with fail
 refine hy.mono ?_;rintro e w4 ⟨u,rfl,qV,b4⟩;have s4:=s3.below b4;have s0:=s3.set3 b4 qV;obtain⟨ua,uc,eu⟩:=aT qV;subst eu;have fn4:=aF s4.k
 have rn4:=aA s4.k
 clear s3 s4 qV b4 hy fn2 rn2 rz3;have hTL:=HTL.out;generalize rO (ps.map (·.1)) name=TL at*;rw [R8] at U9
 by_cases vS:CX=⟨#[]⟩
 ·rw [if_neg (by simpa using vS)] at U9;subst vS;have rn0:=aA s0.k
  by_cases tT:0<TL.length
  ·rw [if_pos tT] at U9;have sF:=(CY.set0 (y:=.int .i64 3) s0);have fp:=aF s0.k
   have rq:=aA sF.k
   have fz:=aF sF.z
   have rzz:=aA sF.z
   obtain⟨k4,hP⟩:=sF.done;have rk:=aA k4
   rw [<- U9] at hP;have HP:=Nm.aD hP;clear s0 sF k4 hP;go_wp2_with fail
   first|refine eB (v:=.agg #[.int .i64 3,.string CB,.string ⟨#[]⟩,(.slice ua TL.length uc)]) ?_ rfl HP.out|done
   simp [results,Tryz.f44,go_sem,rk]
  rw [if_neg tT] at U9;obtain rfl:TL=[]:=List.length_eq_zero_iff.1 (by omega);simp only [List.length_nil] at s0 fn4 rn4 rn0 ⊢;have e0:=ba_eq CB name
  by_cases YZ:CB=name
  ·rw [if_pos YZ] at U9;rw [oI YZ] at e0;clear YZ;have sF:=(CY.set0 (y:=.int .i64 2) s0);have fp:=aF s0.k
   have rq:=aA sF.k
   have fz:=aF sF.z
   have rzz:=aA sF.z
   obtain⟨k4,hP⟩:=sF.done;have rk:=aA k4
   rw [<- U9] at hP;have HP:=Nm.aD hP;clear s0 sF k4 hP;go_wp2_with fail
   first|refine eB (v:=.agg #[.int .i64 2,.string CB,.string ⟨#[]⟩,(.slice ua 0 uc)]) ?_ rfl HP.out|done
   simp [results,Tryz.f44,go_sem,rk]
  rw [if_neg YZ] at U9;rw [oF YZ] at e0;clear YZ;have sF:=(CY.set0 (y:=.int .i64 1) s0);have fp:=aF s0.k
  have rq:=aA sF.k
  have fz:=aF sF.z
  have rzz:=aA sF.z
  obtain⟨k4,hP⟩:=sF.done;have rk:=aA k4
  rw [<- U9] at hP;have HP:=Nm.aD hP;clear s0 sF k4 hP;go_wp2_with fail
  first|refine eB (v:=.agg #[.int .i64 1,.string CB,.string ⟨#[]⟩,(.slice ua 0 uc)]) ?_ rfl HP.out|done
  simp [results,Tryz.f44,go_sem,rk]
 rw [if_pos vS] at U9;obtain⟨m3,m4⟩:=iR (s:=CX) (aGw vS);have xK:=HSm.out CX HCS.out;have rn0:=aA s0.k
 have s9:=s0;clear s0 vS
 cases rW:eQ CX name with
 |true=>
  rw [rW] at xK;rw [if_pos rW] at U9;clear rW;go_wp2_with fail
  refine(xK _).mono ?_;rintro e w5 ⟨rfl,b5⟩;have s0:=s9.below b5;clear s9 b5 fn4 rn4 rn0;have rn0:=aA s0.k
  have sF:=(CY.set0 (y:=.int .i64 4) s0);have fp:=aF s0.k
  have rq:=aA sF.k
  have fz:=aF sF.z
  have rzz:=aA sF.z
  obtain⟨k4,hP⟩:=sF.done;have rk:=aA k4
  rw [<- U9] at hP;have HP:=Nm.aD hP;clear s0 sF k4 hP;go_wp2_with fail
  first|refine eB (v:=.agg #[.int .i64 4,.string CB,.string CX,(.slice ua TL.length uc)]) ?_ rfl HP.out|done
  simp [results,Tryz.f44,go_sem,rk]
 |false=>
  rw [rW] at xK;rw [if_neg (by rw [rW];decide)] at U9;clear rW;go_wp2_with fail
  refine(xK _).mono ?_;rintro e w5 ⟨rfl,b5⟩;have s0:=s9.below b5;clear s9 b5 fn4 rn4 rn0;have rn0:=aA s0.k
  have sF:=(CY.set0 (y:=.int .i64 5) s0);have fp:=aF s0.k
  have rq:=aA sF.k
  have fz:=aF sF.z
  have rzz:=aA sF.z
  obtain⟨k4,hP⟩:=sF.done;have rk:=aA k4
  rw [<- U9] at hP;have HP:=Nm.aD hP;clear s0 sF k4 hP;go_wp2_with fail
  first|refine eB (v:=.agg #[.int .i64 5,.string CB,.string CX,(.slice ua TL.length uc)]) ?_ rfl HP.out|done
  simp [results,Tryz.f44,go_sem,rk]
theorem yS.I6{B g:Nat}{v:Value}(hg:g<B):∀ (vs:List Value) (i:Nat) (W:World),yS W B v ps->yS (bG W g i vs) B v ps
 |[],_,_,h=>h
 |y::vs,i,W,h=>yS.I6 hg vs (i+1) _ (h.low (fun k h1 _=>Below.heap_setCell _ _ _ k (fun e=>by have:k=g:=e;omega)) (KeepsWalks.setCell W _ y).size)
theorem Ii{o name:ByteArray}:∀ (ss:List Sz) (b:ByteArray),b.size<=1048576->(∀ s∈ss,s.own.size<=1048576)->(ss.foldl (mZ o name) b).size<=1048576
 |[],b,h,_=>h
 |s::ss,b,h,hs=>by
  rw [List.foldl_cons];refine Ii ss _ ?_ (fun x hx=>hs x (List.mem_cons_of_mem _ hx));rw [mZ];split
  ·exact hs s List.mem_cons_self
  exact h
theorem Vl(th:ByteArray->Bool):∀ (y:List ByteArray),∃ k,xA th y=y.drop k
 |[]=>⟨0,rfl⟩
 |x::xs=>by
  rw [xA];split
  ·exact⟨0,rfl⟩
  obtain⟨k,e⟩:=Vl th xs;exact⟨k+1,by rw [e];rfl⟩
theorem aJq{o name:ByteArray}{lab:List ByteArray}(hn:Nm.split name=some lab)(hf:∀ p∈ps,p.1.own.size<=1048576):(tX ps o name).iK.size<=255∧(tX ps o name).cut.size<=1048576:=by
 rw [tX];split
 ·refine⟨?_,Ii _ _ (by decide) (fun s hs=>?_)⟩
  ·obtain⟨k,e⟩:=Vl (wZ ps o) ((Nm.split name).getD [])
   show(mJ (xA (wZ ps o) ((Nm.split name).getD []))).size<=255
   rw [e,hn];exact QQ ((iP hn).drop k)
  obtain⟨p,hp,rfl⟩:=kJ hs;exact hf p hp
 exact⟨by decide,by decide⟩
theorem aGx(ps:List Zp)(o name:ByteArray):(tX ps o name).kd=0∨((tX ps o name).kd=4∨(tX ps o name).kd=5)∨((tX ps o name).kd=3∨(tX ps o name).kd=2)∨(tX ps o name).kd=1:=by
 rw [tX];split
 ·show R8 _ _ _ _=0∨(R8 _ _ _ _=4∨R8 _ _ _ _=5)∨(R8 _ _ _ _=3∨R8 _ _ _ _=2)∨R8 _ _ _ _=1
  rw [R8];split
  ·split
   ·exact .inr (.inl (.inl rfl))
   exact .inr (.inl (.inr rfl))
  split
  ·exact .inr (.inr (.inl (.inl rfl)))
  split
  ·exact .inr (.inr (.inl (.inr rfl)))
  exact .inr (.inr (.inr rfl))
 exact .inl rfl
def SfP(s:Stp)(w:World)(e:Ending)(w':World):Prop:=∃ v ps,e=.returned (.agg #[.int .i64 s.kd,v,.bool s.wild,.string s.tgt])∧List.map (·.1) ps=s.ss∧yS w' w.heap.size v ps∧Below w.heap.size w w'
theorem U_{qs:List Zp}{name:ByteArray}(e:qs.map (·.1)=oH (ps.map (·.1)) name){P:Sz->Prop}(h:∀ p∈ps,P p.1):∀ q∈qs,P q.1:=by
 intro q hq;have hm:q.1∈qs.map (·.1):=List.mem_map.2 ⟨q,hq,rfl⟩;rw [e,oH] at hm;obtain⟨p,hp,e2⟩:=kJ (List.mem_filter.1 hm).1;rw [<- e2];exact h p hp
theorem V3{qs:List Zp}{name:ByteArray}(e:qs.map (·.1)=oH (ps.map (·.1)) name):qs.length<=ps.length:=by
 have h1:=congrArg List.length e;rw [List.length_map,oH] at h1;have h2:=List.length_filter_le (fun s=>eQ s.own name) (ps.map (·.1));rw [List.length_map] at h2;omega
theorem Vm(o name:ByteArray)(lab:List ByteArray)(q:Int)(v:Value)(ps:List Zp)(w:World)(h:gG w v ps)(hl:ps.length<=1048576)(hf:∀ p∈ps,p.1.own.size<=1048576∧p.1.da.length<=1048576∧∀ x∈p.1.da,x.size<=1048576)(hn:Nm.split name=some lab)(ho:o.size<=maxLen)(hex:cZ name o=true->∃ j,j<=lab.length∧wZ ps o (mJ (lab.drop j))=true)(dM:∀ p∈ps,0<p.1.da.length):
 Calls Tryz.prog 22 #[.agg #[.string o,v],.string name,.int .i64 q] w (SfP (Nf ps o name q) w):=by
 obtain⟨va,vc,rfl⟩:=mX h;have hns:name.size<=255:=by have:=Nm.dK hn;have:=(iP hn).2;omega
 obtain⟨sI,hcu⟩:=aJq (o:=o) hn (fun p hp=>(hf p hp).1);have hkd:=aGx ps o name;have b0:=((aJ w.heap.size w).alloc (aI _) (.cells #[.string o,.slice va ps.length vc] 25)).alloc (by simp) (.cells H9 29);have k0:=bD (aK w #[.string o,.slice va ps.length vc] 25) (.cells H9 29);have kR:=aK (w.alloc (.cells #[.string o,.slice va ps.length vc] 25)) H9 29;rw [jO] at kR;have HZ:=Nm.aD (fun W (hW:Below w.heap.size w W)=>h.below hW);have Qm:=Vk o name lab _ ps _ (HZ.out _ b0) hl (fun p hp=>(hf p hp).1) hn ho hex;have HFd:=Nm.aD (fun W (hW:Below w.heap.size w W) (x:ByteArray) (t:Int) (hx:x.size<=1048576)=>Vg o x t _ ps W (HZ.out W hW) hl (fun p hp=>⟨(hf p hp).1,(hf p hp).2.1⟩) (by unfold maxLen;omega));have HNs:=Nm.aD (fun W (hW:Below w.heap.size w W) (x:ByteArray) (hx:x.size<=1048576)=>WX o x _ ps W (HZ.out W hW) hl (fun p hp=>⟨(hf p hp).1,(hf p hp).2.1⟩) (by unfold maxLen;omega));have HTh:=Nm.aD (fun W (hW:Below w.heap.size w W) (x:ByteArray) (hx:x.size<=1048576)=>QR o x _ ps W (HZ.out W hW) (fun p hp=>(hf p hp).1) (by unfold maxLen;omega) ho);have HFF:=Nm.aD (fun p hp=>(hf p hp).2.2);have HNE:=Nm.aD dM;obtain⟨S,HS⟩:∃ S,Hid (S=Nf ps o name q):=⟨_,rfl⟩;rw [<- HS.out]
 replace HS:Hid (S=lkN (tX ps o name) (ps.map (·.1)) (wZ ps o) name q):=HS
 generalize tX ps o name=N at*;obtain⟨kd,iK,cut,ty⟩:=N;simp only at hkd sI hcu
 obtain⟨W0,FH⟩:∃ W0,(w.alloc (.cells #[.string o,.slice va ps.length vc] 25)).alloc (.cells H9 29)=W0:=⟨_,rfl⟩;rw [FH] at b0 k0 kR Qm;have r0:=aA k0
 clear h hf hex dM ho;go_enter Tryz.func22,Tryz.ntmps22;go_wp2_with fail
 refine Qm.mono ?_;rintro e w1 ⟨u,rfl,o1,b1⟩;obtain⟨ua,uc,hu⟩:=aT o1;subst hu;simp only
 have cA:=(aJ w1.heap.size w1).alloc (aI _) (.cells #[.int .i64 kd,.string iK,.string cut,.slice ua ty.length uc] 38);have c1:=Nm.aC b1 cA;have gP:=Nm.aC b0 c1;have KQ:=aB k0 c1;have RI:=aB kR c1;have kN1:=aK w1 #[.int .i64 kd,.string iK,.string cut,.slice ua ty.length uc] 38;have sA:(w1.alloc (.cells #[.int .i64 kd,.string iK,.string cut,.slice ua ty.length uc] 38)).heap.size=w1.heap.size+1:=by simp
 have sR:w.heap.size+1<w1.heap.size:=cO (aB kR b1);obtain⟨W1,En⟩:∃ W1,w1.alloc (.cells #[.int .i64 kd,.string iK,.string cut,.slice ua ty.length uc] 38)=W1:=⟨_,rfl⟩;rw [En] at c1 gP KQ RI kN1 sA;have rZ:=aA KQ
 have rN:=aA kN1
 clear b1 cA k0 kR b0 r0 Qm o1
 rcases hkd with rfl|hk|hk|rfl
 ·have HE:Hid (S=NZ 1):=by show _=_;rw [HS.out,aGa rfl]
  have kX:=dH (uZ 1 (.slice none 0 0) false ⟨#[]⟩) RI rfl;have HX:Hid (List.map (·.1) ([]:List Zp)=[]∧yS (bG W1 (w.heap.size+1) 0 (uZ 1 (.slice none 0 0) false ⟨#[]⟩)) w.heap.size (.slice none 0 0) []∧Below w.heap.size w (bG W1 (w.heap.size+1) 0 (uZ 1 (.slice none 0 0) false ⟨#[]⟩))):=⟨rfl,yS.nil,fI (by omega) _ 0 _ gP⟩;have rk:=aA RI
  have fk:=aF RI
  clear HS RI KQ kN1;simp only [bG,Nat.reduceAdd,Nat.zero_add] at kX HX;have rX:=aA kX
  clear kX;go_wp2_with fail
  refine eB (v:=.agg #[.int .i64 1,(.slice none 0 0),.bool false,.string ⟨#[]⟩]) ?_ rfl ⟨(.slice none 0 0),_,by rw [HE.out],by rw [HE.out];exact HX.out.1,HX.out.2.1,HX.out.2.2⟩;simp [results,Tryz.f22,go_sem,rX]
 ·have HE:Hid (S=⟨2,[(lS (ps.map (·.1)) cut 2).getD Ck],false,⟨#[]⟩⟩):=by show _=_;rw [HS.out,aGb hk]
  have Na:=HFd.out _ gP cut 2 hcu
  have Fx:Calls Tryz.prog 45 #[.agg #[.string o,.slice va ps.length vc],.string cut,.int .i64 2] W1 fun e w'=>∃ s v b,Hid (s=(lS (ps.map (·.1)) cut 2).getD Ck)∧e=.returned (.tuple #[.agg #[.string (Sz.own s),.int .i64 s.ty,.int .i64 s.tt,v],.bool b])∧w'.ownsRow W1.heap.size 9 1 v s.da.length (s.da.map Value.string)∧Below W1.heap.size W1 w':=Na.mono (by
   rintro e w' ⟨v,h1,h2,h3⟩
   exact⟨_,v,_,rfl,h1,h2,h3⟩)
  have key:∀ (x:Int),(x=4∨x=5)->x=kd->True:=fun _ _ _=>trivial
  clear key
  rcases hk with rfl|rfl
  all_goals
   clear Na HS HFd HNs HTh kN1;go_wp2_with fail
   refine Fx.mono ?_;rintro e w2 ⟨s,v2,fb,hs,rfl,o2,b2⟩;obtain⟨da,dc,rfl⟩:=aT o2;rw [<- hs.out] at HE;have cA:=(aJ w2.heap.size w2).alloc (aI _) (.cells #[.string s.own,.int .i64 s.ty,.int .i64 s.tt,.slice da s.da.length dc] 42);have z2:=JS (s:=s) (own_below o2 cA) (show W1.heap.size<=_ from jN b2.size cA.size);have cB:=(aJ (w2.alloc (.cells #[.string s.own,.int .i64 s.ty,.int .i64 s.tt,.slice da s.da.length dc] 42)).heap.size (w2.alloc (.cells #[.string s.own,.int .i64 s.ty,.int .i64 s.tt,.slice da s.da.length dc] 42))).alloc (aI _) (.cells #[.string s.own,.int .i64 s.ty,.int .i64 s.tt,.slice da s.da.length dc] 42);have c3:=Nm.aC (Nm.aC b2 cA) cB;have FM:=aB RI c3;have uC:=Nm.aC gP c3;have kS:=aK w2 #[.string s.own,.int .i64 s.ty,.int .i64 s.tt,.slice da s.da.length dc] 42;have rS:=aA kS
   have z3:=z2.fr;rw [jO] at z3;have kX:=dH (uZ 2 (.slice (some ⟨w2.heap.size+1,0,none⟩) 1 1) false ⟨#[]⟩) FM rfl;have HX:Hid (List.map (·.1) [(s,Value.slice da s.da.length dc)]=[s]∧yS (bG ((w2.alloc (.cells #[.string s.own,.int .i64 s.ty,.int .i64 s.tt,.slice da s.da.length dc] 42)).alloc (.cells #[.string s.own,.int .i64 s.ty,.int .i64 s.tt,.slice da s.da.length dc] 42)) (w.heap.size+1) 0 (uZ 2 (.slice (some ⟨w2.heap.size+1,0,none⟩) 1 1) false ⟨#[]⟩)) w.heap.size (.slice (some ⟨w2.heap.size+1,0,none⟩) 1 1) [(s,Value.slice da s.da.length dc)]∧Below w.heap.size w (bG ((w2.alloc (.cells #[.string s.own,.int .i64 s.ty,.int .i64 s.tt,.slice da s.da.length dc] 42)).alloc (.cells #[.string s.own,.int .i64 s.ty,.int .i64 s.tt,.slice da s.da.length dc] 42)) (w.heap.size+1) 0 (uZ 2 (.slice (some ⟨w2.heap.size+1,0,none⟩) 1 1) false ⟨#[]⟩))):=⟨rfl,(yS.I6 (by omega) _ 0 _ z3).base (by omega),fI (by omega) _ 0 _ uC⟩;have rk:=aA FM
   have fk:=aF FM
   clear Fx z2 z3 kS cA cB c3 FM RI KQ o2 b2 gP hs;simp only [bG,Nat.reduceAdd,Nat.zero_add] at kX HX;have rX:=aA kX
   clear kX;go_wp2_with fail
   refine eB (v:=.agg #[.int .i64 2,(.slice (some ⟨w2.heap.size+1,0,none⟩) 1 1),.bool false,.string ⟨#[]⟩]) ?_ rfl ⟨(.slice (some ⟨w2.heap.size+1,0,none⟩) 1 1),_,by rw [HE.out],by rw [HE.out];exact HX.out.1,HX.out.2.1,HX.out.2.2⟩;simp [results,Tryz.f22,go_sem,rX]
 ·have HE:Hid (S=FZ (oH (ps.map (·.1)) name) q):=by show _=_;rw [HS.out,U3 hk]
  have aPv:=HNs.out _ gP name (by omega)
  rcases hk with rfl|rfl
  all_goals
   clear HS HFd HNs HTh kN1;go_wp2_with fail
   refine aPv.mono ?_;rintro e w2 ⟨v2,qs,rfl,e2,z2,b2⟩;have jH:=Ig v2 qs q w2 z2.AU (by have:=V3 e2;omega) (fun p hp _=>U_ e2 (P:=fun s=>0<s.da.length) HNE.out p hp);rw [e2,<- HE.out] at jH;have Wh:=Nm.aD z2.fr;obtain⟨da,dc,rfl⟩:=aT z2.outer;clear aPv e2 z2;go_wp2_with fail
   refine jH.mono ?_;rintro e w3 ⟨v3,Du,rfl,e3,f3,b3⟩;obtain⟨ea,ec,rfl⟩:∃ a c,v3=.slice a Du.length c:=by(obtain⟨⟨_,a,c,e,_⟩,_⟩:=f3 _ (Wh.out.below b3).read;exact⟨a,c,e⟩)
   have c3:=Nm.aC b2 b3;have FM:=aB RI c3;have uC:=Nm.aC gP c3;have z3:yS w3 W1.heap.size (.slice ea Du.length ec) Du:=fun X hX=>f3 X (Wh.out.below b3 X hX)
   have kX:=dH (uZ S.kd (.slice ea Du.length ec) S.wild S.tgt) FM rfl;have HX:Hid (List.map (·.1) Du=S.ss∧yS (bG w3 (w.heap.size+1) 0 (uZ S.kd (.slice ea Du.length ec) S.wild S.tgt)) w.heap.size (.slice ea Du.length ec) Du∧Below w.heap.size w (bG w3 (w.heap.size+1) 0 (uZ S.kd (.slice ea Du.length ec) S.wild S.tgt))):=⟨e3,(yS.I6 (by omega) _ 0 _ z3).base (by omega),fI (by omega) _ 0 _ uC⟩;have rk:=aA FM
   have fk:=aF FM
   clear jH z3 f3 e3 c3 FM RI KQ b2 b3 gP Wh HE;simp only [bG,Nat.reduceAdd,Nat.zero_add] at kX HX;have rX:=aA kX
   clear kX;go_wp2_with fail
   refine eB (v:=.agg #[.int .i64 S.kd,.slice ea Du.length ec,.bool S.wild,.string S.tgt]) ?_ rfl ⟨.slice ea Du.length ec,_,rfl,HX.out.1,HX.out.2.1,HX.out.2.2⟩;simp [results,Tryz.f22,go_sem,rX]
 have Na:=HFd.out _ gP iK 39 (by omega)
 cases Xf:lS (ps.map (·.1)) iK 39 with
 |some s=>
  have HE:Hid (S=AP s (zZ name iK (MU s.da))):=by show _=_;rw [HS.out,aGc rfl Xf]
  obtain⟨d0,rest,MN,hd0⟩:∃ d0 rest,s.da=d0::rest∧d0.size<=1048576:=by
   rw [lS] at Xf;obtain⟨p,hp,rfl⟩:=kJ (List.mem_of_find?_eq_some Xf);have h0:=HNE.out p hp
   cases hx:p.1.da with
   |nil=>rw [hx] at h0;simp at h0
   |cons x r=>exact⟨x,r,rfl,HFF.out p hp x (by rw [hx];simp)⟩
  have Vb:MU s.da=d0:=by rw [MN];rfl
  rw [Vb] at HE
  have Fx:Calls Tryz.prog 45 #[.agg #[.string o,.slice va ps.length vc],.string iK,.int .i64 39] W1 fun e w'=>∃ v,e=.returned (.tuple #[.agg #[.string s.own,.int .i64 s.ty,.int .i64 s.tt,v],.bool true])∧w'.ownsRow W1.heap.size 9 1 v (rest.length+1) ((d0::rest).map Value.string)∧Below W1.heap.size W1 w':=Na.mono (by
   rintro e w' ⟨v,h1,h2,h3⟩;rw [Xf] at h1 h2;simp only [Option.getD_some] at h2;rw [MN] at h2
   exact⟨v,h1,h2,h3⟩)
  have hrp:=fun W=>MC name iK d0 W (by unfold maxLen;omega) (by unfold maxLen;omega) (by unfold maxLen;omega)
  generalize zZ name iK d0=RR at*;obtain⟨rt,rc⟩:=RR;simp only at hrp
  clear Na HS HFd HNs HTh Xf Vb;go_wp2_with fail
  refine Fx.mono ?_;rintro e w2 ⟨v2,rfl,o2,b2⟩;obtain⟨dg,dc,rfl⟩:=ownsRow_succ o2
  have cD:w2.cell? ⟨dg,0,none⟩=some (.string d0):=by
   rw [o2.cellAt 0 (by omega)];rfl
  have cA:=(aJ w2.heap.size w2).alloc (aI _) (.cells #[.string s.own,.int .i64 s.ty,.int .i64 s.tt,.slice (some ⟨dg,0,none⟩) (rest.length+1) dc] 42);have kS:=aK w2 #[.string s.own,.int .i64 s.ty,.int .i64 s.tt,.slice (some ⟨dg,0,none⟩) (rest.length+1) dc] 42;have c2:=Nm.aC b2 cA;have kH:=Nm.aC gP c2;have EU:=aB RI c2;have kN2:=aB kN1 c2;have cD2:(w2.alloc (.cells #[.string s.own,.int .i64 s.ty,.int .i64 s.tt,.slice (some ⟨dg,0,none⟩) (rest.length+1) dc] 42)).cell? ⟨dg,0,none⟩=some (.string d0):=(cA.cell (p:=⟨dg,0,none⟩) (fD w2 _ cD)).trans cD;have o3:=own_below o2 cA;obtain⟨W2,hW2⟩:∃ W2,w2.alloc (.cells #[.string s.own,.int .i64 s.ty,.int .i64 s.tt,.slice (some ⟨dg,0,none⟩) (rest.length+1) dc] 42)=W2:=⟨_,rfl⟩;rw [hW2] at kS kH EU kN2 cD2 o3;have hS:Hid (∀ X,Below W2.heap.size W2 X->(bW X w1.heap.size #[.int .i64 1,.string iK,.string cut,.slice ua ty.length uc] 38∧bW X w2.heap.size #[.string s.own,.int .i64 s.ty,.int .i64 s.tt,.slice (some ⟨dg,0,none⟩) (rest.length+1) dc] 42)∧X.cell? ⟨dg,0,none⟩=some (.string d0)):=fun X hX=>⟨⟨aB kN2 hX,aB kS hX⟩,(hX.cell (p:=⟨dg,0,none⟩) (fD _ _ cD2)).trans cD2⟩
  have bd:=(aJ W2.heap.size W2).drew;have sW:W1.heap.size<=W2.heap.size:=by rw [<- hW2];exact c2.size
  clear Fx cD cD2 cA c2 b2 o2 KQ rZ rN gP kN1 RI;go_upto_region 14 with fail
  refine xV (fun X=>(bW X w1.heap.size #[.int .i64 1,.string iK,.string cut,.slice ua ty.length uc] 38∧bW X w2.heap.size #[.string s.own,.int .i64 s.ty,.int .i64 s.tt,.slice (some ⟨dg,0,none⟩) (rest.length+1) dc] 42)∧X.cell? ⟨dg,0,none⟩=some (.string d0)) 1000 (by kernel_rfl) (hS.out _ bd) fun aY=>?_;refine NE (i:=0) (v:=?_) rfl ?_ ?_;rotate_left 1
  ·(rintro W ⟨⟨s1,s2⟩,s3⟩;have PL:=(aA s1);have LK:=(aA s2);go_simp;try (with_reducible rfl))
  refine NE (i:=1) (v:=?_) rfl ?_ ?_;rotate_left 1
  ·(rintro W ⟨⟨s1,s2⟩,s3⟩;have PL:=(aA s1);have LK:=(aA s2);go_simp;try (with_reducible rfl))
  refine NE (i:=2) (v:=?_) rfl ?_ ?_;rotate_left 1
  ·(rintro W ⟨⟨s1,s2⟩,s3⟩;have PL:=(aA s1);have LK:=(aA s2);go_simp;try (with_reducible rfl))
  refine NE (i:=3) (v:=?_) rfl ?_ ?_;rotate_left 1
  ·(rintro W ⟨⟨s1,s2⟩,s3⟩;have PL:=(aA s1);have LK:=(aA s2);go_simp;try (with_reducible rfl))
  refine NE (i:=4) (v:=?_) rfl ?_ ?_;rotate_left 1
  ·(rintro W ⟨⟨s1,s2⟩,s3⟩;have PL:=(aA s1);have LK:=(aA s2);go_simp;try (with_reducible rfl))
  refine NE (i:=5) (v:=?_) rfl ?_ ?_;rotate_left 1
  ·(rintro W ⟨⟨s1,s2⟩,s3⟩;have PL:=(aA s1);have LK:=(aA s2);go_simp;try (with_reducible rfl))
  refine NE (i:=6) (v:=?_) rfl ?_ ?_;rotate_left 1
  ·(rintro W ⟨⟨s1,s2⟩,s3⟩;have PL:=(aA s1);have LK:=(aA s2);go_simp;try (with_reducible rfl))
  refine DU (i:=7) (by kernel_rfl) rfl fun K hK=>?_;go_simp;refine(hrp _).mono ?_;rintro e w4 ⟨rfl,b4⟩;have c4:=Nm.aC bd b4;go_wp2_with fail
  refine hK.out _ _ (hS.out _ c4) fun aY=>?_;clear hK K;refine NE (i:=8) (v:=?_) rfl ?_ ?_;rotate_left 1
  ·(rintro W ⟨⟨s1,s2⟩,s3⟩;have PL:=(aA s1);have LK:=(aA s2);go_simp;try (with_reducible rfl))
  refine NE (i:=9) (v:=?_) rfl ?_ ?_;rotate_left 1
  ·(rintro W ⟨⟨s1,s2⟩,s3⟩;have PL:=(aA s1);have LK:=(aA s2);go_simp;try (with_reducible rfl))
  refine NE (i:=10) (v:=?_) rfl ?_ ?_;rotate_left 1
  ·(rintro W ⟨⟨s1,s2⟩,s3⟩;have PL:=(aA s1);have LK:=(aA s2);go_simp;try (with_reducible rfl))
  refine NE (i:=11) (v:=?_) rfl ?_ ?_;rotate_left 1
  ·(rintro W ⟨⟨s1,s2⟩,s3⟩;have PL:=(aA s1);have LK:=(aA s2);go_simp;try (with_reducible rfl))
  refine NE (i:=12) (v:=?_) rfl ?_ ?_;rotate_left 1
  ·(rintro W ⟨⟨s1,s2⟩,s3⟩;have PL:=(aA s1);have LK:=(aA s2);go_simp;try (with_reducible rfl))
  refine UL (by kernel_rfl) ?_;have kS4:=aB kS c4;have rS:=aA kS4
  have RL:=aB EU c4;have nN:=Nm.aC kH c4;have o4:=own_below o3 c4;have cB:=(aJ w4.heap.size w4).alloc (aI _) (.cells #[.string s.own,.int .i64 s.ty,.int .i64 s.tt,.slice (some ⟨dg,0,none⟩) (rest.length+1) dc] 42);have kR5:=aB RL cB;have WH:=Nm.aC nN cB;have z5:yS (w4.alloc (.cells #[.string s.own,.int .i64 s.ty,.int .i64 s.tt,.slice (some ⟨dg,0,none⟩) (rest.length+1) dc] 42)) W1.heap.size (.slice (some ⟨w4.heap.size,0,none⟩) 1 1) [(s,Value.slice (some ⟨dg,0,none⟩) (rest.length+1) dc)]:=(JS (s:=s) (u:=.slice (some ⟨dg,0,none⟩) (rest.length+1) dc) (by rw [MN];exact o4) (jN sW c4.size)).fr;have rk:=aA kR5
  have fk:=aF kR5
  clear hS aY c4 b4 kS kS4 EU RL kH nN o3 o4 cB hrp kN2 bd;go_simp
  by_cases GU:rc=0
  ·have t1:(rc != 0)=false:=by simpa using GU
   have HE2:Hid (S=⟨6,[s],false,rt⟩):=by show _=_;rw [HE.out,AP,if_pos GU]
   clear HE;have HE:=HE2;clear HE2;have kX:=dH (uZ 6 (.slice (some ⟨w4.heap.size,0,none⟩) 1 1) false rt) kR5 rfl;have HX:Hid (List.map (·.1) [(s,Value.slice (some ⟨dg,0,none⟩) (rest.length+1) dc)]=[s]∧yS (bG (w4.alloc (.cells #[.string s.own,.int .i64 s.ty,.int .i64 s.tt,.slice (some ⟨dg,0,none⟩) (rest.length+1) dc] 42)) (w.heap.size+1) 0 (uZ 6 (.slice (some ⟨w4.heap.size,0,none⟩) 1 1) false rt)) w.heap.size (.slice (some ⟨w4.heap.size,0,none⟩) 1 1) [(s,Value.slice (some ⟨dg,0,none⟩) (rest.length+1) dc)]∧Below w.heap.size w (bG (w4.alloc (.cells #[.string s.own,.int .i64 s.ty,.int .i64 s.tt,.slice (some ⟨dg,0,none⟩) (rest.length+1) dc] 42)) (w.heap.size+1) 0 (uZ 6 (.slice (some ⟨w4.heap.size,0,none⟩) 1 1) false rt))):=⟨rfl,(yS.I6 (by omega) _ 0 _ z5).base (by omega),fI (by omega) _ 0 _ WH⟩;clear z5 WH kR5;simp only [bG,Nat.reduceAdd,Nat.zero_add] at kX HX;have rX:=aA kX
   clear kX;go_wp2_with fail
   refine eB (v:=.agg #[.int .i64 6,(.slice (some ⟨w4.heap.size,0,none⟩) 1 1),.bool false,.string rt]) ?_ rfl ⟨(.slice (some ⟨w4.heap.size,0,none⟩) 1 1),_,by rw [HE.out],by rw [HE.out];exact HX.out.1,HX.out.2.1,HX.out.2.2⟩;simp [results,Tryz.f22,go_sem,rX]
  have t1:(rc != 0)=true:=by simpa using GU
  have HE2:Hid (S=⟨7,[s],false,⟨#[]⟩⟩):=by show _=_;rw [HE.out,AP,if_neg GU]
  clear HE;have HE:=HE2;clear HE2;have kX:=dH (uZ 7 (.slice (some ⟨w4.heap.size,0,none⟩) 1 1) false ⟨#[]⟩) kR5 rfl;have HX:Hid (List.map (·.1) [(s,Value.slice (some ⟨dg,0,none⟩) (rest.length+1) dc)]=[s]∧yS (bG (w4.alloc (.cells #[.string s.own,.int .i64 s.ty,.int .i64 s.tt,.slice (some ⟨dg,0,none⟩) (rest.length+1) dc] 42)) (w.heap.size+1) 0 (uZ 7 (.slice (some ⟨w4.heap.size,0,none⟩) 1 1) false ⟨#[]⟩)) w.heap.size (.slice (some ⟨w4.heap.size,0,none⟩) 1 1) [(s,Value.slice (some ⟨dg,0,none⟩) (rest.length+1) dc)]∧Below w.heap.size w (bG (w4.alloc (.cells #[.string s.own,.int .i64 s.ty,.int .i64 s.tt,.slice (some ⟨dg,0,none⟩) (rest.length+1) dc] 42)) (w.heap.size+1) 0 (uZ 7 (.slice (some ⟨w4.heap.size,0,none⟩) 1 1) false ⟨#[]⟩))):=⟨rfl,(yS.I6 (by omega) _ 0 _ z5).base (by omega),fI (by omega) _ 0 _ WH⟩;clear z5 WH kR5;simp only [bG,Nat.reduceAdd,Nat.zero_add] at kX HX;have rX:=aA kX
  clear kX;go_wp2_with fail
  refine eB (v:=.agg #[.int .i64 7,(.slice (some ⟨w4.heap.size,0,none⟩) 1 1),.bool false,.string ⟨#[]⟩]) ?_ rfl ⟨(.slice (some ⟨w4.heap.size,0,none⟩) 1 1),_,by rw [HE.out],by rw [HE.out];exact HX.out.1,HX.out.2.1,HX.out.2.2⟩
  simp [results,Tryz.f22,go_sem,rX]
 |none=>
  have HE0:Hid (S=if wZ ps o (xB iK)=true then Ct name (FZ (oH (ps.map (·.1)) (xB iK)) q) else NZ 8):=by show _=_;rw [HS.out,aGd rfl Xf]
  have XE:(xB iK).size<=1048576:=by
   have:(xB iK).size=2+iK.size:=by simp [xB];rfl
   omega
  have Fx:Calls Tryz.prog 45 #[.agg #[.string o,.slice va ps.length vc],.string iK,.int .i64 39] W1 fun e w'=>∃ v,e=.returned (.tuple #[.agg #[.string ⟨#[]⟩,.int .i64 0,.int .i64 0,v],.bool false])∧(∃ a c,v=.slice a 0 c)∧Below W1.heap.size W1 w':=Na.mono (by
   rintro e w' ⟨v,h1,h2,h3⟩;rw [Xf] at h1 h2
   exact⟨v,h1,aT h2,h3⟩)
  have mI:=fun W=>Vj iK W (by omega)
  have MR:=fun W hW=>HTh.out W hW (xB iK) XE
  have aMj:=fun W hW=>HNs.out W hW (xB iK) XE
  generalize xB iK=ST at*
  cases htz:wZ ps o ST with
  |true=>
   rw [htz] at MR;rw [htz,if_pos rfl] at HE0;clear Na HS HFd HNs HTh Xf htz;go_wp2_with fail
   refine Fx.mono ?_;rintro e w2 ⟨v2,rfl,⟨da,dc,rfl⟩,b2⟩;have cA:=(aJ w2.heap.size w2).alloc (aI _) (.cells #[.string ⟨#[]⟩,.int .i64 0,.int .i64 0,.slice da 0 dc] 42);have c2:=Nm.aC b2 cA;have kH:=Nm.aC gP c2;have EU:=aB RI c2;have kN2:=aB kN1 c2;have WN:=aB KQ c2;have rZ2:=aA WN
   have rN2:=aA kN2
   clear Fx b2 cA rZ rN;go_wp2_with fail
   refine(mI _).mono ?_;rintro e w3 ⟨rfl,hw3⟩;subst hw3;go_wp2_with fail
   refine(MR _ kH).mono ?_;rintro e w3 ⟨rfl,b3⟩;have uC:=Nm.aC kH b3;have FM:=aB EU b3;have kZ3:=aB WN b3;have rZ3:=aA kZ3
   have sR3:w.heap.size+1<w3.heap.size:=cO FM;clear MR mI rZ2 rN2 kN2 WN EU kH b3 c2 kN1 KQ RI gP;go_wp2_with fail
   refine(aMj _ uC).mono ?_;rintro e w4 ⟨v4,qs4,rfl,e4,z4,b4⟩;have hl4:=V3 e4;have hm4:=U_ e4 (P:=fun s=>0<s.da.length) HNE.out;have how:=I5 name v4 qs4 w3.heap.size w4 z4 (by omega);obtain⟨fa,fc,rfl⟩:=aT z4.outer;have nN:=Nm.aC uC b4;have RL:=aB FM b4;clear aMj rZ3 kZ3 z4 uC FM b4;go_wp2_with fail
   refine how.mono ?_;rintro e w5 ⟨rfl,z5,b5⟩;have WH:Below w.heap.size w w5:=nN.trans (b5.mono (by omega));have kR5:bW w5 (w.heap.size+1) H9 29:=(b5.block _ sR3).trans RL
   have jH:=Ig (.slice fa qs4.length fc) (qs4.map (xC name)) q w5 z5.AU (by simp;omega) (fun p hp _=>by
    obtain⟨p',Gt,rfl⟩:=kJ hp
    exact hm4 p' Gt)
   have ey:(qs4.map (xC name)).map (·.1)=(oH (ps.map (·.1)) ST).map (MF name):=by
    rw [<- e4,List.map_map,List.map_map];rfl
   rw [ey] at jH;have HE1:Hid (S=⟨(FZ ((oH (ps.map (·.1)) ST).map (MF name)) q).kd,(FZ ((oH (ps.map (·.1)) ST).map (MF name)) q).ss,true,(FZ ((oH (ps.map (·.1)) ST).map (MF name)) q).tgt⟩):=by show _=_;rw [HE0.out,aL8];rfl
   generalize FZ ((oH (ps.map (·.1)) ST).map (MF name)) q=Y at*;have Wh:=Nm.aD z5.fr;clear how ey e4 hm4 hl4 z5 b5 RL nN HE0;go_wp2_with fail
   refine jH.mono ?_;rintro e w6 ⟨v6,Wn,rfl,e6,f6,b6⟩;obtain⟨ga,gc,rfl⟩:∃ a c,v6=.slice a Wn.length c:=by(obtain⟨⟨_,a,c,e,_⟩,_⟩:=f6 _ (Wh.out.below b6).read;exact⟨a,c,e⟩)
   have z6:yS w6 w3.heap.size (.slice ga Wn.length gc) Wn:=fun X hX=>f6 X (Wh.out.below b6 X hX)
   have Qq:=Nm.aC WH b6;have kR6:=aB kR5 b6;have cS:=(aJ w6.heap.size w6).alloc (aI _) (.cells (uZ Y.kd (.slice ga Wn.length gc) true Y.tgt).toArray 29);have kS:=aK w6 (uZ Y.kd (.slice ga Wn.length gc) true Y.tgt).toArray 29;have kF:=aK w6 (uZ Y.kd (.slice ga Wn.length gc) Y.wild Y.tgt).toArray 29;have z7:=z6.below cS;have bw7:=Nm.aC Qq cS;have kR7:=aB kR6 cS;have HE:=HE1;have kX:=dH (uZ Y.kd (.slice ga Wn.length gc) true Y.tgt) kR7 rfl;have HX:Hid (List.map (·.1) Wn=Y.ss∧yS (bG (w6.alloc (.cells (uZ Y.kd (.slice ga Wn.length gc) true Y.tgt).toArray 29)) (w.heap.size+1) 0 (uZ Y.kd (.slice ga Wn.length gc) true Y.tgt)) w.heap.size (.slice ga Wn.length gc) Wn∧Below w.heap.size w (bG (w6.alloc (.cells (uZ Y.kd (.slice ga Wn.length gc) true Y.tgt).toArray 29)) (w.heap.size+1) 0 (uZ Y.kd (.slice ga Wn.length gc) true Y.tgt))):=⟨e6,(yS.I6 (by omega) _ 0 _ z7).base (by omega),fI (by omega) _ 0 _ bw7⟩;have rS:=aA kS
   have rF:=aA kF
   have fF:=aF kF
   have rk:=aA kR7
   have fk:=aF kR7
   clear jH z6 z7 f6 e6 kR5 kR6 kR7 WH Qq bw7 cS b6 Wh HE1 kS kF;simp only [bG,Nat.reduceAdd,Nat.zero_add] at kX HX;have rX:=aA kX
   clear kX;go_wp2_with fail
   refine eB (v:=.agg #[.int .i64 (Y.kd),(.slice ga Wn.length gc),.bool true,.string (Y.tgt)]) ?_ rfl ⟨(.slice ga Wn.length gc),_,by rw [HE.out],by rw [HE.out];exact HX.out.1,HX.out.2.1,HX.out.2.2⟩
   simp [results,Tryz.f22,go_sem,rX]
  |false=>
   rw [htz] at MR;rw [htz,if_neg (by decide)] at HE0;have HE:=HE0;clear Na HS HFd HNs HTh Xf htz HE0 aMj;go_wp2_with fail
   refine Fx.mono ?_;rintro e w2 ⟨v2,rfl,⟨da,dc,rfl⟩,b2⟩;have cA:=(aJ w2.heap.size w2).alloc (aI _) (.cells #[.string ⟨#[]⟩,.int .i64 0,.int .i64 0,.slice da 0 dc] 42);have c2:=Nm.aC b2 cA;have kH:=Nm.aC gP c2;have EU:=aB RI c2;have kN2:=aB kN1 c2;have WN:=aB KQ c2;have rZ2:=aA WN
   have rN2:=aA kN2
   clear Fx b2 cA rZ rN;go_wp2_with fail
   refine(mI _).mono ?_;rintro e w3 ⟨rfl,hw3⟩;subst hw3;go_wp2_with fail
   refine(MR _ kH).mono ?_;rintro e w3 ⟨rfl,b3⟩;have uC:=Nm.aC kH b3;have FM:=aB EU b3;have kX:=dH (uZ 8 (.slice none 0 0) false ⟨#[]⟩) FM rfl;have HX:Hid (List.map (·.1) ([]:List Zp)=[]∧yS (bG w3 (w.heap.size+1) 0 (uZ 8 (.slice none 0 0) false ⟨#[]⟩)) w.heap.size (.slice none 0 0) []∧Below w.heap.size w (bG w3 (w.heap.size+1) 0 (uZ 8 (.slice none 0 0) false ⟨#[]⟩))):=⟨rfl,yS.nil,fI (by omega) _ 0 _ uC⟩;have rk:=aA FM
   have fk:=aF FM
   clear MR mI rZ2 rN2 kN2 WN EU kH b3 c2 kN1 KQ RI gP FM uC;simp only [bG,Nat.reduceAdd,Nat.zero_add] at kX HX;have rX:=aA kX
   clear kX;go_wp2_with fail
   refine eB (v:=.agg #[.int .i64 8,(.slice none 0 0),.bool false,.string ⟨#[]⟩]) ?_ rfl ⟨(.slice none 0 0),_,by rw [HE.out],by rw [HE.out];exact HX.out.1,HX.out.2.1,HX.out.2.2⟩;simp [results,Tryz.f22,go_sem,rX]
theorem aMk{l:List ByteArray}{name:ByteArray}(h:∀ i x,i<l.length->l[i]? =some x->eQ x name=false):Ih l name=false:=by
 rw [Ih,List.any_eq_false];intro x hx;obtain⟨i,hi⟩:=List.getElem?_of_mem hx;rw [h i x (dL hi).1 hi];simp
theorem VU(v:Value)(ls:List ByteArray)(name:ByteArray)(w:World)(h:Nm.bP w v ls)(hx:∀ x∈ls,x.size<=maxLen)(hn:name.size<=maxLen):
 Calls Tryz.prog 8 #[v,.string name] w fun e w'=>e=.returned (.bool (Ih ls name))∧Below w.heap.size w w':=by
 have h0:=h;obtain⟨va,vc,rfl,gT,kV,-,-⟩:=h0;have HS:=Nm.aD (fun(x:ByteArray) (hx:x.size<=maxLen) W=>gM x name W hx hn);have HZ:=Nm.aD (fun W (hW:Below w.heap.size w W)=>h.below hW);have HF:=Nm.aD hx;have RG:ls.length<=maxLen:=by omega
 unfold maxLen at RG;obtain⟨R,hR⟩:∃ R,Hid (R=Ih ls name):=⟨_,rfl⟩;rw [<- hR.out];clear h hx gT kV;go_enter Tryz.func8,Tryz.ntmps8;go_wp2
 go_loopw [5] (fun i wr=>∃ (j:Nat),j<=ls.length∧i=.int .i64 j∧Below w.heap.size w wr∧Hid (∀ i x,i<j->ls[i]? =some x->eQ x name=false)) (fun i _=>ls.length-(intOf i).toNat)
 ·exact⟨0,dR _,rfl,aJ _ _,fun i x hi=>by omega⟩
 obtain⟨j,hj,rfl,hb,EW⟩:=hrel
 by_cases bY:j<ls.length
 ·obtain⟨q,hq⟩:=gQ bY;obtain⟨a9,c9,e9,_,_,_,CR⟩:=HZ.out _ hb;simp only [gK] at e9;obtain⟨rfl,_,rfl⟩:=e9;obtain⟨b,off,rfl,aH⟩:=CR (by intro e;rw [e] at bY;simp at bY);have d0:=aH j q hq;have Cj:=HS.out q (HF.out q (dA hq)) wr;have n1:=fE j
  have n2:(j:Int)<(ls.length:Int):=by omega
  have HQ:=Nm.aD hq;clear CR aH hq
  cases xR:eQ q name with
  |true=>
   rw [xR] at Cj;have HT:Hid (R=true):=by show _=_;rw [hR.out,Ih,List.any_eq_true];exact⟨q,dA HQ.out,xR⟩
   clear xR;go_wp2_with fail
   refine Cj.mono ?_;rintro e w2 ⟨rfl,b2⟩;have kH:=hb.trans (b2.mono hb.size);clear Cj b2 d0;go_wp2;go_ret
   exact⟨by rw [HT.out];rfl,kH⟩
  |false=>
   rw [xR] at Cj
   have HN2:Hid (∀ i x,i<j+1->ls[i]? =some x->eQ x name=false):=by
    intro i x hi hx
    rcases Nat.lt_or_eq_of_le (Nat.le_of_lt_succ hi) with h1|h1
    ·exact EW.out i x h1 hx
    subst h1;rw [HQ.out] at hx;obtain rfl:=jI hx;exact xR
   clear xR;go_wp2_with fail
   refine Cj.mono ?_;rintro e w2 ⟨rfl,b2⟩;have kH:=hb.trans (b2.mono hb.size);clear Cj b2 d0;go_wp2;go_roundw
   ·exact⟨j+1,bY,by go_num,kH,HN2⟩
   simp [intOf];omega
 have n2:¬(j:Int)<(ls.length:Int):=by omega
 have HT:Hid (R=false):=by show _=_;rw [hR.out];exact aMk (fun i x hi hx=>EW.out i x (by omega) hx)
 go_wp2;go_ret;exact⟨by rw [HT.out];rfl,hb⟩
