import Derived.Test.YtfmolgdfjklmpaaGreatJFnT
import Derived.Test.YtfmolgdfjklmpaaGreatJSls
import Derived.Test.YtfmolgdfjklmpaaGreatJSCheck
import Derived.Test.YtfmolgdfjklmpaaGreatJZbH
import Derived.Test.YtfmolgdfjklmpaaGreatJZoK
import Derived.Test.YtfmolgdfjklmpaaGreatJCnQ
import Derived.Test.YtfmolgdfjklmpaaGreatJZrM
namespace Go.Proofs.YtfmolgdfjklmpaaGreat
open Go.RowKit
set_option linter.unusedVariables false
set_option maxRecDepth 100000 in
set_option maxHeartbeats 400000 in
theorem specLabels_any(s:ByteArray)(w:World)(hs:s.size<=maxLen):
 Calls Tryz.prog 56 #[.string s] w fun e w'=>∃ v,e=.returned v∧w'.ownsRow w.heap.size 9 1 v ((Nm.split s).getD []).length (((Nm.split s).getD []).map Value.string)∧Below w.heap.size w w':=by
 go_enter Tryz.func56,Tryz.ntmps56;go_wp2_with (go_at_call 14;refine(l01Split_any s _ hs).mono ?_;rintro e w1 ⟨v,rfl,hown,hbel⟩)
 go_ret;exact⟨_,rfl,hown,hbel⟩
theorem cutZ_next{ps:List Zp}{o name:ByteArray}{j:Nat}{q:Zp}(hq:ps[j]? =some q):cutZ ((ps.take (j+1)).map (·.1)) o name=cutStep o name (cutZ ((ps.take j).map (·.1)) o name) q.1:=by
 rw [Nm.take_step hq,List.map_append,cutZ,cutZ,List.foldl_append];rfl
set_option maxRecDepth 100000 in
set_option maxHeartbeats 1600000 in
theorem l06Cut_any(o name:ByteArray)(v:Value)(ps:List Zp)(w:World)(h:ZRow w v ps)(hf:∀ p∈ps,p.1.own.size<=1048576)(hn:name.size<=maxLen)(ho:o.size<=maxLen):
 Calls Tryz.prog 50 #[.agg #[.string o,v],.string name] w fun e w'=>e=.returned (.string (cutZ (ps.map (·.1)) o name))∧Below w.heap.size w w':=by
 obtain⟨va,vc,rfl⟩:∃ va vc,v=.slice va ps.length vc:=by obtain⟨⟨_,a,c,e,_⟩,_⟩:=h;exact⟨a,c,e⟩
 have b0:=(Below.refl w.heap.size w).alloc (Nat.le_refl _) (.cells #[.string o,.slice va ps.length vc] 25);have k0:=blk_new w #[.string o,.slice va ps.length vc] 25;have HSm:=Nm.hide (fun(x:ByteArray) (hx:x.size<=1048576) W=>specSameName_any x o W (by unfold maxLen;omega) ho);have HUn:=Nm.hide (fun(x:ByteArray) (hx:x.size<=1048576) W=>specIsUnder_any name x W hn (by unfold maxLen;omega))
 have HLb:Hid (∀ (x:ByteArray) (hx:x.size<=1048576) W,Calls Tryz.prog 56 #[.string x] W fun e w'=>∃ a c,e=.returned (.slice a (labN x) c)∧Below W.heap.size W w'):=fun x hx W=>(specLabels_any x W (by unfold maxLen;omega)).mono (by
  rintro e w' ⟨u,rfl,hu,hb⟩;obtain⟨a,c,rfl⟩:=own_sl hu
  exact⟨a,c,rfl,hb⟩)
 have HLN:Hid (∀ (x:ByteArray),x.size<=1048576->labN x<=1000):=fun x hx=>by
  show labN x<=1000
  rw [labN]
  cases hq:Nm.split x with
  |none=>simp
  |some xs=>
   have h1:=Nm.split_size hq;have h2:=Nm.length_le_wsum xs;show xs.length<=1000
   omega
 have HZ:=Nm.hide (fun W (hW:Below w.heap.size w W)=>h.below hW);have HF:=Nm.hide hf;have HG:Hid (∀ W,Below w.heap.size w W->w.heap.size<=W.heap.size):=fun W hW=>hW.size
 have hps:ps.length<=maxLen:=by obtain⟨⟨_,a,c,e,h1,h2,_⟩,_⟩:=h;simp only [Value.slice.injEq] at e;omega
 unfold maxLen at hps;clear h hf;go_enter Tryz.func50,Tryz.ntmps50;go_wp2;generalize hgg:w.heap.size=g at*;have HGG:=Nm.hide hgg;clear hgg
 go_loopw [5,6] (fun bv i wr=>∃ (j:Nat) (bs:ByteArray),j<=ps.length∧i=.int .i64 j∧bv=.string bs∧bs.size<=1048576∧bs=cutZ ((ps.take j).map (·.1)) o name∧Below g w wr∧Blk wr g #[.string o,.slice va ps.length vc] 25) (fun _ i _=>ps.length-(intOf i).toNat)
 case atStart=>exact⟨0,⟨#[]⟩,Nat.zero_le _,rfl,rfl,by decide,rfl,b0,k0⟩
 case round=>
  clear b0 k0;obtain⟨j,bs,hj,rfl,rfl,hbs,hbe,hb,kz⟩:=hrel;have HBE:=Nm.hide hbe;have rz:=fun i=>blk_cell kz i
  clear hbe
  by_cases hlt:j<ps.length
  ·obtain⟨q,hq⟩:∃ q,ps[j]? =some q:=⟨_,List.getElem?_eq_getElem hlt⟩;obtain⟨⟨_,a9,c9,e9,_,_,hc9⟩,hd9⟩:=HZ.out _ hb;simp only [Value.slice.injEq] at e9;obtain⟨rfl,_,rfl⟩:=e9;obtain⟨b,off,rfl,hcell⟩:=hc9 (by omega);obtain⟨d0,d1,d2,d3⟩:=zp_cells hcell hq;have hfq:=HF.out q (List.mem_of_getElem? hq);obtain⟨ua,un,uc,hu⟩:∃ ua un uc,q.2=.slice ua un uc:=by obtain⟨a,c,e,_⟩:=hd9 q (List.mem_of_getElem? hq);exact⟨a,_,c,e⟩
   have n1:(0:Int)<=(j:Int):=by omega
   have n2:(j:Int)<(ps.length:Int):=by omega
   have HNX:Hid (cutZ ((ps.take (j+1)).map (·.1)) o name=cutStep o name bs q.1):=by show _=_;rw [cutZ_next hq,HBE.out]
   clear hc9 hd9 hcell hq;obtain⟨⟨x,ty,tt,ds⟩,u⟩:=q;simp only at d0 d1 d2 d3 hfq hu
   subst hu;have kS:=blk_new wr #[.string x,.int .i64 ty,.int .i64 tt,.slice ua un uc] 53;have bS:=(Below.refl wr.heap.size wr).alloc (Nat.le_refl _) (.cells #[.string x,.int .i64 ty,.int .i64 tt,.slice ua un uc] 53);have kz2:=blk_below kz bS;have bw2:=hb.trans (bS.mono (HG.out _ hb));have rS:=fun i=>blk_cell kS i
   have fS:=fun i=>blk_frozen kS i
   by_cases hty:ty=2
   ·have t1:(ty==2)=true:=by simp [hty]
    have HTY:=Nm.hide hty;have rz2:=fun i=>blk_cell kz2 i
    have HSX:=Nm.hide (HSm.out x hfq);clear hty
    cases hsb:sameS x o with
    |true=>
     have HN:Hid (bs=cutZ ((ps.take (j+1)).map (·.1)) o name):=by show _=_;rw [HNX.out,cutStep,candZ];simp [hsb]
     rw [hsb] at HSX;clear hsb HNX;go_wp2_with (go_at_call 15;refine(HSX.out _).mono ?_;rintro e w1 ⟨rfl,b1⟩)
     go_roundw
     case rel=>exact⟨j+1,bs,hlt,by go_num,rfl,hbs,HN.out,bw2.trans (b1.mono (HG.out _ bw2)),blk_below kz2 b1⟩
     case measure=>simp [intOf];omega
    |false=>
     rw [hsb] at HSX;have HSB:=Nm.hide hsb;clear hsb;go_wp2_with fail
     refine(HSX.out _).mono ?_;rintro e w1 ⟨rfl,b1⟩;have kS1:=blk_below kS b1;have kz1:=blk_below kz2 b1;have bw1:=bw2.trans (b1.mono (HG.out _ bw2));have rS1:=fun i=>blk_cell kS1 i
     have hun:=HUn.out x hfq w1;clear kS kz2 bw2 b1 rS fS rz rz2 d0 d1 d2 d3 HSX kz hb bS;generalize wr.heap.size=sp at*
     cases hub:isUnderS name x with
     |false=>
      have HN:Hid (bs=cutZ ((ps.take (j+1)).map (·.1)) o name):=by show _=_;rw [HNX.out,cutStep,candZ];simp [hub]
      rw [hub] at hun;clear hub HNX;go_wp2_with (go_at_call 6;refine hun.mono ?_;rintro e w2 ⟨rfl,b2⟩)
      go_roundw
      case rel=>exact⟨j+1,bs,hlt,by go_num,rfl,hbs,HN.out,bw1.trans (b2.mono (HG.out _ bw1)),blk_below kz1 b2⟩
      case measure=>simp [intOf];omega
     |true=>
      have HCA:Hid (candZ o name ⟨x,ty,tt,ds⟩=true):=by show _=_;rw [candZ];simp [HTY.out,HSB.out,hub]
      rw [hub] at hun;clear hub
      by_cases hbn:bs=⟨#[]⟩
      ·have HN:Hid (x=cutZ ((ps.take (j+1)).map (·.1)) o name):=by show _=_;rw [HNX.out,cutStep,HCA.out];simp [hbn]
       subst hbn;clear HNX HCA HBE;go_wp2_with fail
       refine hun.mono ?_;rintro e w2 ⟨rfl,b2⟩;have kS2:=blk_below kS1 b2;have rS2:=fun i=>blk_cell kS2 i
       have kz2:=blk_below kz1 b2;have bw2:=bw1.trans (b2.mono (HG.out _ bw1));clear kS1 rS1 kz1 bw1 b2 hun;go_wp2;go_roundw
       case rel=>exact⟨j+1,x,hlt,by go_num,rfl,hfq,HN.out,bw2,kz2⟩
       case measure=>simp [intOf];omega
      ·obtain⟨m1,m2⟩:=not_empty (s:=bs) (Nat.pos_of_ne_zero fun e=>hbn (by
        cases bs with|mk d=>
        congr
        exact Array.eq_empty_of_size_eq_zero e))
       have HL1:=HLN.out x hfq;have HL2:=HLN.out bs hbs;have HBN:=Nm.hide hbn;clear hbn;go_wp2_with fail
       refine hun.mono ?_;rintro e w2 ⟨rfl,b2⟩;have kS2:=blk_below kS1 b2;have rS2:=fun i=>blk_cell kS2 i
       have kz2:=blk_below kz1 b2;have bw2:=bw1.trans (b2.mono (HG.out _ bw1));clear kS1 rS1 kz1 bw1 b2 hun;have hl1:=HLb.out x hfq w2;go_wp2_with fail
       refine hl1.mono ?_;rintro e w3 ⟨xa,xc,rfl,b3⟩;have kS3:=blk_below kS2 b3;have rS3:=fun i=>blk_cell kS3 i
       have kz3:=blk_below kz2 b3;have bw3:=bw2.trans (b3.mono (HG.out _ bw2));have hl2:=HLb.out bs hbs w3;clear kS2 rS2 kz2 bw2 b3 hl1
       by_cases hcmp:labN x<labN bs
       ·have HN:Hid (x=cutZ ((ps.take (j+1)).map (·.1)) o name):=by show _=_;rw [HNX.out,cutStep,HCA.out];simp [hcmp]
        have i1:(labN x:Int)<(labN bs:Int):=by omega
        clear HNX HCA HBE hcmp;generalize labN x=LX at*;generalize labN bs=LB at*;go_wp2_with fail
        refine hl2.mono ?_;rintro e w4 ⟨ya,yc,rfl,b4⟩;have kS4:=blk_below kS3 b4;have rS4:=fun i=>blk_cell kS4 i
        have kz4:=blk_below kz3 b4;have bw4:=bw3.trans (b4.mono (HG.out _ bw3));clear kS3 rS3 kz3 bw3 b4 hl2;go_wp2;go_roundw
        case rel=>exact⟨j+1,x,hlt,by go_num,rfl,hfq,HN.out,bw4,kz4⟩
        case measure=>simp [intOf];omega
       ·have HN:Hid (bs=cutZ ((ps.take (j+1)).map (·.1)) o name):=by show _=_;rw [HNX.out,cutStep,HCA.out];simp [hcmp,HBN.out]
        have i1:(labN bs:Int)<=(labN x:Int):=by omega
        clear HNX HCA HBE hcmp;generalize labN x=LX at*;generalize labN bs=LB at*;go_wp2_with fail
        refine hl2.mono ?_;rintro e w4 ⟨ya,yc,rfl,b4⟩;have kz4:=blk_below kz3 b4;have bw4:=bw3.trans (b4.mono (HG.out _ bw3));clear kS3 rS3 kz3 bw3 b4 hl2;go_wp2;go_roundw
        case rel=>exact⟨j+1,bs,hlt,by go_num,rfl,hbs,HN.out,bw4,kz4⟩
        case measure=>simp [intOf];omega
   ·have t1:(ty==2)=false:=by simp [hty]
    have HN:Hid (bs=cutZ ((ps.take (j+1)).map (·.1)) o name):=by show _=_;rw [HNX.out,cutStep,candZ];simp [hty]
    clear hty;go_wp2;go_roundw
    case rel=>exact⟨j+1,bs,hlt,by go_num,rfl,hbs,HN.out,bw2,kz2⟩
    case measure=>simp [intOf];omega
  ·obtain rfl:j=ps.length:=by omega
   have i9:(ps.length:Int)<=(ps.length:Int):=by omega
   rw [List.take_length] at HBE;go_wp2;go_ret;rw [HGG.out];exact⟨by rw [<- HBE.out];rfl,hb⟩
theorem cloZ_stop{th:ByteArray->Bool}{y:List ByteArray}(h:th (joB y)=true):cloZ th y=y:=by
 cases y with
 |nil=>rfl
 |cons x xs=>rw [cloZ,if_pos h]
theorem cloZ_go{th:ByteArray->Bool}{y:List ByteArray}(h:th (joB y)=false)(hex:∃ j,j<=y.length∧th (joB (y.drop j))=true):0<y.length∧cloZ th y=cloZ th (y.drop 1)∧∃ j,j<=(y.drop 1).length∧th (joB ((y.drop 1).drop j))=true:=by
 obtain⟨j,hj,ht⟩:=hex
 cases j with
 |zero=>rw [List.drop_zero,h] at ht;cases ht
 |succ j=>
  cases y with
  |nil=>simp at hj
  |cons x xs=>
   refine⟨by simp,?_,j,by simpa using hj,by simpa using ht⟩;rw [cloZ,if_neg (by rw [h];decide)];rfl
theorem anc_jo{name:ByteArray}{lab:List ByteArray}(h:Nm.split name=some lab){k:Nat}(hk:k<=lab.length):ancS name k=(joB (lab.drop k),0):=by
 rw [ancS,h]
 show(if _ then _ else _)=_
 rw [if_pos (by constructor<;>omega)];simp [joB]
theorem jo_ne(ls:List ByteArray):joB ls≠⟨#[]⟩:=by
 intro e;have h:=congrArg ByteArray.size e;simp [joB,ByteArray.size,Nm.joinL] at h
theorem ba_pos{a:ByteArray}(h:a≠⟨#[]⟩):0<a.size:=Nat.pos_of_ne_zero fun e=>h (by
 cases a with|mk d=>
 congr
 exact Array.eq_empty_of_size_eq_zero e)
set_option maxRecDepth 100000 in
set_option maxHeartbeats 3200000 in
theorem l06Node_any(o name:ByteArray)(lab:List ByteArray)(v:Value)(ps:List Zp)(w:World)(h:ZRow w v ps)(hl:ps.length<=1048576)(hf:∀ p∈ps,p.1.own.size<=1048576)(hn:Nm.split name=some lab)(ho:o.size<=maxLen)(hex:isUnderS name o=true->∃ j,j<=lab.length∧thZ ps o (joB (lab.drop j))=true):
 Calls Tryz.prog 23 #[.agg #[.string o,v],.string name] w (NdV (ndZ ps o name) w):=by
 obtain⟨va,vc,rfl⟩:∃ va vc,v=.slice va ps.length vc:=by obtain⟨⟨_,a,c,e,_⟩,_⟩:=h;exact⟨a,c,e⟩
 have hgl:=gl_split hn;have hns:name.size<=255:=(Nm.split_size hn).2;have hll:lab.length<=254:=Nat.le_trans (Nm.length_le_wsum lab) hgl.2;have b0:=(Below.refl w.heap.size w).alloc (Nat.le_refl _) (.cells #[.string o,.slice va ps.length vc] 25);have b1:=b0.alloc b0.size (.cells #[.int .i64 0,.string ⟨#[]⟩,.string ⟨#[]⟩,.slice none 0 0] 38);have k1:=blk_alloc (blk_new w #[.string o,.slice va ps.length vc] 25) (.cells #[.int .i64 0,.string ⟨#[]⟩,.string ⟨#[]⟩,.slice none 0 0] 38);have kN:=blk_new (w.alloc (.cells #[.string o,.slice va ps.length vc] 25)) #[.int .i64 0,.string ⟨#[]⟩,.string ⟨#[]⟩,.slice none 0 0] 38;rw [World.size_alloc] at kN;have sN:=NdS.start kN (Nat.le_succ _) b1 (Below.refl _ _);have kZ:=blk_alloc k1 (.cells #[.int .i64 0,.string ⟨#[]⟩,.string ⟨#[]⟩,.slice none 0 0] 38);rw [World.size_alloc,World.size_alloc] at sN;have HU:=Nm.hide (fun W=>specIsUnder_any name o W (by unfold maxLen;omega) ho)
 have HA:Hid (∀ (k:Nat),k<=lab.length->∀ W,Calls Tryz.prog 48 #[.string name,.int .i64 k] W fun e w'=>e=.returned (.tuple #[.string (joB (lab.drop k)),.int .i64 0])∧Below W.heap.size W w'):=fun k hk W=>by
  have:=specAncestor_any name k W (by unfold maxLen;omega)
  rwa [anc_jo hn hk] at this
 have HT:Hid (∀ (k:Nat) W,Below w.heap.size w W->Calls Tryz.prog 49 #[.agg #[.string o,.slice va ps.length vc],.string (joB (lab.drop k))] W fun e w'=>e=.returned (.bool (thZ ps o (joB (lab.drop k))))∧Below W.heap.size W w'):=fun k W hW=>l06There_any o _ _ ps W (h.below hW) hf (by have:=jo_size (hgl.drop k);unfold maxLen;omega) ho
 have HX:Hid (∀ W,Below w.heap.size w W->Calls Tryz.prog 50 #[.agg #[.string o,.slice va ps.length vc],.string name] W fun e w'=>e=.returned (.string (cutZ (ps.map (·.1)) o name))∧Below W.heap.size W w'):=fun W hW=>l06Cut_any o name _ ps W (h.below hW) hf (by unfold maxLen;omega) ho
 have HY:Hid (∀ W,Below w.heap.size w W->Calls Tryz.prog 51 #[.agg #[.string o,.slice va ps.length vc],.string name] W fun e w'=>∃ u,e=.returned u∧w'.ownsRow W.heap.size 2 1 u (typZ (ps.map (·.1)) name).length (intCells (typZ (ps.map (·.1)) name))∧Below W.heap.size W w'):=fun W hW=>l06Types_any o name _ ps W (h.below hW) hl hf (by unfold maxLen;omega)
 have HTL:Hid ((typZ (ps.map (·.1)) name).length<=1048576):=by have h1:=typZ_len (ps.map (·.1)) name;rw [List.length_map] at h1;exact Nat.le_trans h1 hl
 have HSm:=Nm.hide (fun(x:ByteArray) (hx:x.size<=1048576) W=>specSameName_any x name W (by unfold maxLen;omega) (by unfold maxLen;omega))
 have HCS:Hid ((cutZ (ps.map (·.1)) o name).size<=1048576):=by
  show _<=_
  rcases cutZ_cases o name (fun s hs=>cand_ne hs) (ps.map (·.1)) with⟨z1,-⟩|⟨z,hz,z1,-⟩
  ·rw [z1];decide
  ·obtain⟨p,hp,rfl⟩:=List.mem_map.1 hz;rw [z1];exact hf p hp
 obtain⟨R,hR⟩:∃ R,R=ndZ ps o name:=⟨_,rfl⟩;rw [<- hR];rw [ndZ,hn] at hR;have hu0:=HU.out;have rz:=fun i=>blk_cell kZ i
 have rn:=fun i=>blk_cell sN.k i
 have fn:=fun i=>blk_frozen sN.k i
 clear h hf k1 kN b0 b1
 cases hub:isUnderS name o with
 |false=>
  rw [hub] at hR hu0;have hR0:R=⟨0,⟨#[]⟩,⟨#[]⟩,[]⟩:=hR;subst hR0;clear hub hR HA HT HX HY HSm HCS hex;go_enter Tryz.func23,Tryz.ntmps23;go_wp2_with fail
  refine(hu0 _).mono ?_;rintro e w1 ⟨rfl,b1⟩;have s0:=sN.below b1;have rp:=fun i=>blk_cell s0.k i
  have fz:=fun i=>blk_frozen s0.z i
  have rzz:=fun i=>blk_cell s0.z i
  obtain⟨k4,hP⟩:=s0.done;have rk:=fun i=>blk_cell k4 i
  have HP:=Nm.hide hP;clear s0 k4 hP sN kZ rz rn fn;go_wp2_with fail
  refine bodyPost_ret (v:=.agg #[.int .i64 0,.string ⟨#[]⟩,.string ⟨#[]⟩,.slice none 0 0]) ?_ rfl HP.out
  simp [results,Tryz.f23,go_sem,rk]
 |true=>
  rw [hub] at hR hu0;simp only [if_true,Option.getD_some] at hR;have HR:=Nm.hide hR;have HEX:=Nm.hide (hex hub);clear hub hR hex;go_enter Tryz.func23,Tryz.ntmps23;go_wp2_with fail
  refine(hu0 _).mono ?_;rintro e w1 ⟨rfl,b1⟩;have s1:=sN.below b1;have kZ1:=blk_below kZ b1;clear sN kZ rz rn fn hu0 b1;go_wp2
  go_loopw [6] (fun i wr=>∃ (k:Nat) (cb:ByteArray),i=.int .i64 k∧NdS w wr (w.heap.size+1) (w.heap.size+1+1) (.int .i64 0) (.string cb) (.string ⟨#[]⟩) (.slice none 0 0) []∧Blk wr w.heap.size #[.string o,.slice va ps.length vc] 25∧((cb=⟨#[]⟩∧k<=lab.length∧Hid (cloZ (thZ ps o) (lab.drop k)=cloZ (thZ ps o) lab∧∃ j,j<=(lab.drop k).length∧thZ ps o (joB ((lab.drop k).drop j))=true))∨cb=joB (cloZ (thZ ps o) lab))) (fun i _=>lab.length+1-(intOf i).toNat)
  case atStart=>exact⟨0,⟨#[]⟩,rfl,s1,kZ1,.inl ⟨rfl,Nat.zero_le _,rfl,HEX.out⟩⟩
  case round=>
   clear s1 kZ1 HEX;obtain⟨k,cb,rfl,sk,kz,hst⟩:=hrel;have rn:=fun i=>blk_cell sk.k i
   have fn:=fun i=>blk_frozen sk.k i
   have rz:=fun i=>blk_cell kz i
   rcases hst with⟨rfl,hk,HJ⟩|rfl
   ·have ha:=HA.out k hk wr;have HT:=Nm.hide (HT.out k);have HTS:Hid (thZ ps o (joB (lab.drop k))=true->joB (lab.drop k)=joB (cloZ (thZ ps o) lab)):=fun h=>by rw [<- HJ.out.1,cloZ_stop h]
    have HTG:Hid (thZ ps o (joB (lab.drop k))=false->k+1<=lab.length∧(cloZ (thZ ps o) (lab.drop (k+1))=cloZ (thZ ps o) lab∧∃ j,j<=(lab.drop (k+1)).length∧thZ ps o (joB ((lab.drop (k+1)).drop j))=true)):=fun h=>by
     obtain⟨g1,g2,g3⟩:=cloZ_go h HJ.out.2;rw [List.length_drop] at g1;rw [List.drop_drop] at g2 g3;exact⟨by omega,by rw [<- g2];exact HJ.out.1,g3⟩
    clear HJ;generalize joB (lab.drop k)=JB at*;go_wp2_with fail
    refine ha.mono ?_;rintro e w2 ⟨rfl,b2⟩;have s2:=sk.below b2;have kz2:=blk_below kz b2;have rz2:=fun i=>blk_cell kz2 i
    have ht:=HT.out _ s2.be;clear sk kz rn fn rz b2 ha HT
    cases hth:thZ ps o JB with
    |true=>
     rw [hth] at ht;have HJ:=Nm.hide (HTS.out hth);clear hth HTS HTG;go_wp2_with fail
     refine ht.mono ?_;rintro e w3 ⟨rfl,b3⟩;have s3:=s2.below b3;have s4:=s3.set1 (y:=.string JB);have fn:=fun i=>blk_frozen s3.k i
     have rn:=fun i=>blk_cell s3.k i
     have kz4:=blk_far (i:=1) (v:=.string JB) (blk_below kz2 b3) (c:=w.heap.size+1+1) (by omega);clear s2 s3 kz2 rz2 b3 ht;go_wp2;go_roundw
     case rel=>exact⟨k+1,JB,by go_num,s4,kz4,.inr HJ.out⟩
     case measure=>simp [intOf];omega
    |false=>
     rw [hth] at ht;have HJ:=Nm.hide (HTG.out hth);clear hth HTS HTG;go_wp2_with (go_at_call 49;refine ht.mono ?_;rintro e w3 ⟨rfl,b3⟩)
     go_roundw
     case rel=>exact⟨k+1,⟨#[]⟩,by go_num,s2.below b3,blk_below kz2 b3,.inl ⟨rfl,HJ.out.1,HJ.out.2⟩⟩
     case measure=>simp [intOf];omega
   ·have hne:=jo_ne (cloZ (thZ ps o) lab);generalize joB (cloZ (thZ ps o) lab)=CB at*;obtain⟨m1,m2⟩:=not_empty (s:=CB) (ba_pos hne);have hx:=HX.out _ sk.be;have hHR:=HR.out;clear HA HT hne HU HX;generalize cutZ (ps.map (·.1)) o name=CX at*;go_wp2_with fail
    refine hx.mono ?_;rintro e w2 ⟨rfl,b2⟩;have s2:=sk.below b2;have s3:=s2.set2 (y:=.string CX);have fn2:=fun i=>blk_frozen s2.k i
    have rn2:=fun i=>blk_cell s2.k i
    have kz3:=blk_far (i:=2) (v:=.string CX) (blk_below kz b2) (c:=w.heap.size+1+1) (by omega);have rz3:=fun i=>blk_cell kz3 i
    have hy:=HY.out _ s3.be;clear sk s2 kz rn fn rz b2 hx HY kz3;go_wp2_with fail
    refine hy.mono ?_;rintro e w4 ⟨u,rfl,hou,b4⟩;have s4:=s3.below b4;have s0:=s3.set3 b4 hou;obtain⟨ua,uc,eu⟩:=own_sl hou;subst eu;have fn4:=fun i=>blk_frozen s4.k i
    have rn4:=fun i=>blk_cell s4.k i
    clear s3 s4 hou b4 hy fn2 rn2 rz3;have hTL:=HTL.out;generalize typZ (ps.map (·.1)) name=TL at*;rw [kdZ] at hHR
    by_cases hcx:CX=⟨#[]⟩
    ·rw [if_neg (by simpa using hcx)] at hHR;subst hcx;have rn0:=fun i=>blk_cell s0.k i
     by_cases hty:0<TL.length
     ·rw [if_pos hty] at hHR;have i1:(0:Int)<(TL.length:Int):=by omega
      have sF:=(NdS.set0 (y:=.int .i64 3) s0);have fp:=fun i=>blk_frozen s0.k i
      have rq:=fun i=>blk_cell sF.k i
      have fz:=fun i=>blk_frozen sF.z i
      have rzz:=fun i=>blk_cell sF.z i
      obtain⟨k4,hP⟩:=sF.done;have rk:=fun i=>blk_cell k4 i
      rw [<- hHR] at hP;have HP:=Nm.hide hP;clear s0 sF k4 hP;go_wp2_with fail
      first|refine bodyPost_ret (v:=.agg #[.int .i64 3,.string CB,.string ⟨#[]⟩,(.slice ua TL.length uc)]) ?_ rfl HP.out|done
      simp [results,Tryz.f23,go_sem,rk]
     ·rw [if_neg hty] at hHR;obtain rfl:TL=[]:=List.length_eq_zero_iff.1 (by omega);simp only [List.length_nil] at s0 fn4 rn4 rn0 ⊢;have e0:=ba_eq CB name
      by_cases hcn:CB=name
      ·rw [if_pos hcn] at hHR;rw [decide_eq_true hcn] at e0;clear hcn;have sF:=(NdS.set0 (y:=.int .i64 2) s0);have fp:=fun i=>blk_frozen s0.k i
       have rq:=fun i=>blk_cell sF.k i
       have fz:=fun i=>blk_frozen sF.z i
       have rzz:=fun i=>blk_cell sF.z i
       obtain⟨k4,hP⟩:=sF.done;have rk:=fun i=>blk_cell k4 i
       rw [<- hHR] at hP;have HP:=Nm.hide hP;clear s0 sF k4 hP;go_wp2_with fail
       first|refine bodyPost_ret (v:=.agg #[.int .i64 2,.string CB,.string ⟨#[]⟩,(.slice ua 0 uc)]) ?_ rfl HP.out|done
       simp [results,Tryz.f23,go_sem,rk]
      ·rw [if_neg hcn] at hHR;rw [decide_eq_false hcn] at e0;clear hcn;have sF:=(NdS.set0 (y:=.int .i64 1) s0);have fp:=fun i=>blk_frozen s0.k i
       have rq:=fun i=>blk_cell sF.k i
       have fz:=fun i=>blk_frozen sF.z i
       have rzz:=fun i=>blk_cell sF.z i
       obtain⟨k4,hP⟩:=sF.done;have rk:=fun i=>blk_cell k4 i
       rw [<- hHR] at hP;have HP:=Nm.hide hP;clear s0 sF k4 hP;go_wp2_with fail
       first|refine bodyPost_ret (v:=.agg #[.int .i64 1,.string CB,.string ⟨#[]⟩,(.slice ua 0 uc)]) ?_ rfl HP.out|done
       simp [results,Tryz.f23,go_sem,rk]
    ·rw [if_pos hcx] at hHR;obtain⟨m3,m4⟩:=not_empty (s:=CX) (ba_pos hcx);have hsm:=HSm.out CX HCS.out;have rn0:=fun i=>blk_cell s0.k i
     have s9:=s0;clear s0 hcx
     cases hsb:sameS CX name with
     |true=>
      rw [hsb] at hsm;rw [if_pos hsb] at hHR;clear hsb;go_wp2_with fail
      refine(hsm _).mono ?_;rintro e w5 ⟨rfl,b5⟩;have s0:=s9.below b5;clear s9 b5 fn4 rn4 rn0;have rn0:=fun i=>blk_cell s0.k i
      have sF:=(NdS.set0 (y:=.int .i64 4) s0);have fp:=fun i=>blk_frozen s0.k i
      have rq:=fun i=>blk_cell sF.k i
      have fz:=fun i=>blk_frozen sF.z i
      have rzz:=fun i=>blk_cell sF.z i
      obtain⟨k4,hP⟩:=sF.done;have rk:=fun i=>blk_cell k4 i
      rw [<- hHR] at hP;have HP:=Nm.hide hP;clear s0 sF k4 hP;go_wp2_with fail
      first|refine bodyPost_ret (v:=.agg #[.int .i64 4,.string CB,.string CX,(.slice ua TL.length uc)]) ?_ rfl HP.out|done
      simp [results,Tryz.f23,go_sem,rk]
     |false=>
      rw [hsb] at hsm;rw [if_neg (by rw [hsb];decide)] at hHR;clear hsb;go_wp2_with fail
      refine(hsm _).mono ?_;rintro e w5 ⟨rfl,b5⟩;have s0:=s9.below b5;clear s9 b5 fn4 rn4 rn0;have rn0:=fun i=>blk_cell s0.k i
      have sF:=(NdS.set0 (y:=.int .i64 5) s0);have fp:=fun i=>blk_frozen s0.k i
      have rq:=fun i=>blk_cell sF.k i
      have fz:=fun i=>blk_frozen sF.z i
      have rzz:=fun i=>blk_cell sF.z i
      obtain⟨k4,hP⟩:=sF.done;have rk:=fun i=>blk_cell k4 i
      rw [<- hHR] at hP;have HP:=Nm.hide hP;clear s0 sF k4 hP;go_wp2_with fail
      first|refine bodyPost_ret (v:=.agg #[.int .i64 5,.string CB,.string CX,(.slice ua TL.length uc)]) ?_ rfl HP.out|done
      simp [results,Tryz.f23,go_sem,rk]
end Go.Proofs.YtfmolgdfjklmpaaGreat
