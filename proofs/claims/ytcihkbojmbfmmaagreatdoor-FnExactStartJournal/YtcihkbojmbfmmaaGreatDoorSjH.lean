import Derived.Test.YtcihkbojmbfmmaaGreatDoorJSjC
import Derived.Test.YtcihkbojmbfmmaaGreatDoorJICc
import Derived.Test.YtcihkbojmbfmmaaGreatDoorISh
import Derived.Laws.Cover3
namespace Go.Proofs.YtcihkbojmbfmmaaGreatDoor
open Go.RowKit
set_option linter.unusedVariables false
def ShaAt(w:World):Prop:=(∃ t fr,w.heap[0]? =some (.cells (hvA H0) t fr))∧KAt w 1
theorem ShaAt.below{w W:World}(h:ShaAt w)(hb:Below w.heap.size w W):ShaAt W:=by
 obtain⟨⟨t,fr,hh⟩,hK⟩:=h;exact⟨⟨t,fr,(hb.block _ (Array.getElem?_eq_some_iff.1 hh).1).trans hh⟩,hK.below hb⟩
theorem four_of{α:Type}(l:List α)(h:4<=l.length):∃ a b c d r,l=a::b::c::d::r:=by
 match l,h with
 |a::b::c::d::r,_=>exact⟨a,b,c,d,r,rfl⟩
 |[],h=>simp at h
 |[_],h=>simp at h
 |[_,_],h=>simp at h
 |[_,_,_],h=>simp at h
set_option maxRecDepth 100000 in
set_option maxHeartbeats 3200000 in
theorem checkOf_any(v:Value)(l:List UInt8)(w:World)(h:BySl w v l)(hl:l.length<=3000000)(hA:ShaAt w):
 Calls Tryz.prog 33 #[v] w fun e w'=>∃ x0 x1 x2 x3:UInt8,e=.returned (.agg #[.int .u8 (x0.toNat:Int),.int .u8 (x1.toNat:Int),.int .u8 (x2.toNat:Int),.int .u8 (x3.toNat:Int)])∧(shaL l).take 4=[x0,x1,x2,x3]∧Below w.heap.size w w':=by
 obtain⟨a,cap,rfl⟩:∃ a c,v=.slice a l.length c:=by obtain⟨_,a,c,e,_⟩:=h;exact⟨a,c,e⟩
 have hz4:∀ W,(zeroValue 63).run Tryz.prog W=.ok (.agg #[.int .u8 0,.int .u8 0,.int .u8 0,.int .u8 0]) W:=(zero_of_info (P:=Tryz.prog) (t:=63) (v:=.agg #[.int .u8 0,.int .u8 0,.int .u8 0,.int .u8 0]) (n:=4) (by kernel_rfl)).1;have hz32:∀ W,(zeroValue 86).run Tryz.prog W=.ok (.agg (Array.replicate 32 (.int .u8 0))) W:=(zero_of_info (P:=Tryz.prog) (t:=86) (v:=.agg (Array.replicate 32 (.int .u8 0))) (n:=32) (by kernel_rfl)).1;have hb0:=(Below.refl w.heap.size w).alloc (Nat.le_refl _) (.cells #[.int .u8 0,.int .u8 0,.int .u8 0,.int .u8 0] 63);have k0:=blk_new w #[.int .u8 0,.int .u8 0,.int .u8 0,.int .u8 0] 63;have him:=implSha256_any _ l _ (h.below hb0) hl (hA.below hb0).1 (hA.below hb0).2;have hs32:=shaL_len l;obtain⟨x0,x1,x2,x3,tl,hsl⟩:=four_of (shaL l) (by omega);have HT:Hid ((shaL l).take 4=[x0,x1,x2,x3]):=by show _=_;rw [hsl];rfl
 rw [HT.out];have D0:(byA (shaL l))[0]? =some (.int .u8 (x0.toNat:Int)):=by rw [hsl];rfl
 have D1:(byA (shaL l))[1]? =some (.int .u8 (x1.toNat:Int)):=by rw [hsl];rfl
 have D2:(byA (shaL l))[2]? =some (.int .u8 (x2.toNat:Int)):=by rw [hsl];rfl
 have D3:(byA (shaL l))[3]? =some (.int .u8 (x3.toNat:Int)):=by rw [hsl];rfl
 clear hsl h hA;generalize shaL l=sl at*;have hsB:(byA sl).size=32:=by rw [byA_size];exact hs32
 have hinfB:(Tryz.prog.info? 86).map (·.size)=some (byA sl).size:=by rw [hsB];kernel_rfl
 have hinf4:(Tryz.prog.info? 63).map (·.size)=some 4:=by kernel_rfl
 have HsB:=Nm.hide hsB;have hat:∀ (b:Nat) W,(Instr.arrayAt 63 (.slice (some ⟨b,0,none⟩) 4 32)).run Tryz.prog W=.ok (.pointer (some ⟨b,0,none⟩)) W:=fun b W=>run_arrayAt W 63 _ 4 _ 4 32 Tryz.underlying63 (Nat.le_refl _)
 have hnew:∀ W W':World,Only W.heap.size (W.alloc (.cells (Array.replicate 32 (.int .u8 0)) 86)) W'->Below W.heap.size W W':=fun W W' o=>
  o.below ((Below.refl _ W).alloc (Nat.le_refl _) _) (Nat.le_refl _) (by rw [World.size_alloc];omega)
 clear hs32 hsB;go_enter Tryz.func33,Tryz.ntmps33;go_wp2_with fail
 go_at_call 62
 refine him.mono ?_;rintro e w1 ⟨rfl,b1⟩;have k1:=blk_below k0 b1;have hb1:=Nm.below_two hb0 b1;have hlt:=blk_lt k1;clear him k0 hb0 b1;go_wp2_with (first|(refine wpList_store_blk (.tmp 3) (.tmp 5) 86 rfl rfl rfl w1.heap.size _ _ (blk_new _ _ _) rfl rfl hinfB (by rw [HsB.out];simp) (byA_one _) ?_;intro w3 k3 o3;have b3:=hnew _ _ o3;clear o3;have k13:=blk_below k1 b3;have hb3:=Nm.below_two hb1 b3;have d0:=(blk_cell k3 0).trans D0;have d1:=(blk_cell k3 1).trans D1;have d2:=(blk_cell k3 2).trans D2;have d3:=(blk_cell k3 3).trans D3;clear b3 k3 k1 hb1)|(refine wpList_store_blk (.tmp 2) (.tmp 8) 63 rfl rfl rfl w.heap.size _ (byA [x0,x1,x2,x3]) k13 rfl rfl (by rw [byA_size];exact hinf4) (by rw [byA_size];rfl) (byA_one _) ?_;intro w4 k4 o4;have hb4:=o4.below hb3 (Nat.le_refl _) hb3.size;clear o4))
 exact bodyPost_ret (v:=.agg _) (run_results_cell Tryz.results33 rfl k4 Tryz.underlying63 (by rw [byA_size];exact hinf4)) rfl ⟨x0,x1,x2,x3,rfl,rfl,hb4⟩
def SjP(R:List UInt8×Int)(w:World)(e:Ending)(w':World):Prop:=∃ v,e=.returned (.tuple #[v,.int .i64 R.2])∧w'.ownsRow w.heap.size 5 1 v R.1.length (Nm.bys R.1)∧Below w.heap.size w w'
theorem arr_by{w:World}{b:Nat}{x0 x1 x2 x3:UInt8}{T:TypeId}(h:Blk w b #[.int .u8 (x0.toNat:Int),.int .u8 (x1.toNat:Int),.int .u8 (x2.toNat:Int),.int .u8 (x3.toNat:Int)] T):BySl w (.slice (some ⟨b,0,none⟩) 4 4) [x0,x1,x2,x3]:=by
 refine⟨rfl,_,_,rfl,Nat.le_refl _,by unfold maxLen;decide,fun _=>⟨b,0,rfl,fun i x hx=>?_⟩⟩;rw [Nat.zero_add,blk_cell h]
 match i,hx with
 |0,hx=>exact hx
 |1,hx=>exact hx
 |2,hx=>exact hx
 |3,hx=>exact hx
 |(i+4),hx=>simp [Nm.bys] at hx
set_option maxRecDepth 100000 in
set_option maxHeartbeats 6400000 in
theorem frameOf_any(l:List UInt8)(w:World)(hl:l.length<=3000000)(hA:ShaAt w):
 Calls Tryz.prog 19 #[.string ⟨l.toArray⟩,.int .i64 400000] w (SjP (if 400000<l.length+8 then([],11) else(frmP l,0)) w):=by
 obtain⟨S,hS⟩:∃ S:ByteArray,S=⟨l.toArray⟩:=⟨_,rfl⟩;rw [<- hS];have hSz:S.size=l.length:=by rw [hS,ba_size]
 have hSl:S.data.toList=l:=by rw [hS]
 clear hS
 by_cases hbig:400000<l.length+8
 ·rw [if_pos hbig];have i1:(400000:Int)<4+(S.size:Int)+4:=by omega
  have hzl:S.size<=3000000:=by omega
  clear hbig hSl hSz hl hA;go_enter Tryz.func19,Tryz.ntmps19;go_wp2;go_ret2;exact⟨_,rfl,World.ownsRow_nil _ _ _ _,Below.refl _ _⟩
 ·rw [if_neg hbig];have i1:¬(400000:Int)<4+(S.size:Int)+4:=by omega
  obtain⟨v0,W0,hc0,hF0,b0⟩:=FRow.new S w (by omega);rw [hSl] at hF0;have hck:=checkOf_any v0 l W0 hF0.read hl (hA.below b0);have hp:∀ W,Calls Tryz.prog 35 #[.int .i64 (S.size:Int),.int .i64 4] W fun e w'=>e=.returned (.string ⟨(bigL l.length 4).toArray⟩)∧Below W.heap.size W w':=fun W=>by rw [hSz];exact bigBytesN_any l.length 4 W (by omega) (by decide) (by decide)
  have hcP:=fun W=>FRow.new ⟨(bigL l.length 4).toArray⟩ W (by rw [ba_size,bigL_len];omega)
  rw [show(⟨(bigL l.length 4).toArray⟩:ByteArray).data.toList=bigL l.length 4 by simp] at hcP;have hcS:=fun W=>FRow.new S W (by omega)
  rw [hSl] at hcS;have hlb:bigL l.length 4=bigL l.length 4:=rfl;have HR:Hid (frmP l=bigL l.length 4++l++(shaL l).take 4):=rfl;have hB4:=bigL_len l.length 4;obtain⟨P,hP⟩:∃ P:ByteArray,P=⟨(bigL l.length 4).toArray⟩:=⟨_,rfl⟩;rw [<- hP] at hp hcP;clear hP hlb;generalize bigL l.length 4=B4 at*;have HB4:=Nm.hide hB4;have hzl:S.size<=3000000:=by omega
  have HL:=Nm.hide hl;clear hB4 hbig hF0 hSl hA
  obtain⟨p0,c0,rfl⟩:∃ a c,v0=.slice a l.length c:=by
   have:=run_bytes_of_string w 9 26 5 S Tryz.underlying9 Tryz.underlying26 Tryz.underlying5;rw [hc0] at this;cases this
   exact⟨_,_,by rw [hSz]⟩
  clear hSz hl;go_enter Tryz.func19,Tryz.ntmps19;go_wp2_with fail
  go_at_call 33
  refine hck.mono ?_;rintro e w1 ⟨x0,x1,x2,x3,rfl,hx,b1⟩;rw [hx] at HR;have kR:=blk_new w1 #[.int .u8 (x0.toNat:Int),.int .u8 (x1.toNat:Int),.int .u8 (x2.toNat:Int),.int .u8 (x3.toNat:Int)] 63;have hb01:=Nm.below_two b0 b1;have hb:=hb01.alloc hb01.size (.cells #[.int .u8 (x0.toNat:Int),.int .u8 (x1.toNat:Int),.int .u8 (x2.toNat:Int),.int .u8 (x3.toNat:Int)] 63)
  have HF:Hid (∀ (W' wF:World) (v:Value),Below w.heap.size w W'->wF.ownsRow W'.heap.size 5 1 v (B4++l++[x0,x1,x2,x3]).length (Nm.bys (B4++l++[x0,x1,x2,x3]))->Below W'.heap.size W' wF->wF.ownsRow w.heap.size 5 1 v (frmP l).length (Nm.bys (frmP l))∧Below w.heap.size w wF):=by
   intro W' wF v h1 h2 h3;rw [HR.out];refine⟨⟨h2.1,h2.2.imp id fun⟨g,cap,cur,e,hg,r⟩=>⟨g,cap,cur,e,Nat.le_trans h1.size hg,r⟩⟩,Nm.below_two h1 h3⟩
  clear hck hc0 b0 b1 hb01 hx HR;go_wp2;generalize w1.heap.size=q at*;generalize w1.alloc (.cells #[.int .u8 (x0.toNat:Int),.int .u8 (x1.toNat:Int),.int .u8 (x2.toNat:Int),.int .u8 (x3.toNat:Int)] 63)=X at*;refine wp_region_last (S:=fun W=>Blk W q #[.int .u8 (x0.toNat:Int),.int .u8 (x1.toNat:Int),.int .u8 (x2.toNat:Int),.int .u8 (x3.toNat:Int)] 63) (L:=1000) (by kernel_rfl) kR (fun hH=>?_);refine tkL (i:=0) (v:=?_) rfl ?_ ?_;rotate_left 1
  ·(intro W s1;have ss1:=(fun i=>blk_cell s1 i);go_simp;try (with_reducible rfl))
  refine tkL (i:=1) (v:=?_) rfl ?_ ?_;rotate_left 1
  ·(intro W s1;have ss1:=(fun i=>blk_cell s1 i);go_simp;try (with_reducible rfl))
  refine tkL (i:=4) (v:=?_) rfl ?_ ?_;rotate_left 1
  ·(intro W s1;have ss1:=(fun i=>blk_cell s1 i);go_simp;try (with_reducible rfl))
  refine tkL (i:=6) (v:=?_) rfl ?_ ?_;rotate_left 1
  ·(intro W s1;have ss1:=(fun i=>blk_cell s1 i);go_simp;try (with_reducible rfl))
  refine wpAnyL_two (i:=2) (j:=5) (by kernel_rfl) rfl rfl (fun K hK'=>?_) (fun K hK'=>?_)
  ·go_simp;refine(hp _).mono ?_;rintro e w3 ⟨rfl,b3'⟩;have b3:Below X.heap.size X w3:=by first|with_reducible exact b3'|exact(Below.refl _ X).drew.trans b3'
   have kR3:=blk_below kR b3;have hb3:=Nm.below_two hb b3;clear b3 b3' kR hb;go_wp2_with fail
   refine hK'.out _ _ kR3 (fun hH=>?_);clear hK' K;refine wpAnyL_two (i:=3) (j:=5) (by kernel_rfl) rfl rfl (fun K hK'=>?_) (fun K hK'=>?_)
   ·obtain⟨v4,W4,hc4,hF4,b4⟩:=hcP w3;obtain⟨a4,c4,rfl⟩:=hF4.sl;have kR4:=blk_below kR3 b4;have hb4:=Nm.below_two hb3 b4;go_simp;refine hK'.out _ _ kR4 (fun hH=>?_);clear hK' K;refine wpAnyL_one (i:=5) (by kernel_rfl) rfl (fun K hK'=>?_);obtain⟨v5,W5,hc5,hF5,b5⟩:=hcS W4;obtain⟨a5,c5,rfl⟩:=hF5.sl;have kT:=blk_below kR4 b5;have hbT:=Nm.below_two hb4 b5;have hy1:=(hF4.below b5).read;have hy2:=hF5.read;go_simp;refine hK'.out _ _ kT (fun hH=>?_);clear hK' K;have hbA:=hbT.alloc hbT.size (.cells #[(.slice a4 B4.length c4),(.slice a5 l.length c5),.slice (some ⟨q,0,none⟩) 4 4] 26);have bA:=(Below.refl (W5).heap.size W5).alloc (Nat.le_refl _) (.cells #[(.slice a4 B4.length c4),(.slice a5 l.length c5),.slice (some ⟨q,0,none⟩) 4 4] 26);have kA:=blk_new W5 #[(.slice a4 B4.length c4),(.slice a5 l.length c5),.slice (some ⟨q,0,none⟩) 4 4] 26;have kQ:=blk_below kT bA;have hcc:=concat3_own _ _ _ _ _ _ (W5).heap.size _ ((blk_cell kA 0).trans rfl) ((blk_cell kA 1).trans rfl) ((blk_cell kA 2).trans rfl) (hy1.below bA) (hy2.below bA) (arr_by kQ) (by rw [HB4.out];decide) (by rw [HB4.out];decide) HL.out (by simp);clear hy1 hy2 kT kA bA;refine wpAnyL_one (i:=7) (by kernel_rfl) rfl (fun K hK'=>?_);go_simp;refine hK'.out _ _ kQ (fun hH=>?_);clear hK' K;refine wpAnyL_one (i:=8) (by kernel_rfl) rfl (fun K hK'=>?_);go_simp;refine hcc.mono ?_;rintro e wF ⟨vF,rfl,hoF,bF⟩;have kF:=blk_below kQ bF;have HZ:=Nm.hide (HF.out _ _ _ hbA hoF bF);clear hcc kQ hoF bF hbA;go_wp2_with fail
    refine hK'.out _ _ kF (fun hH=>?_);clear hK' K;refine tkL (i:=9) (v:=?_) rfl ?_ ?_;rotate_left 1
    ·(intro W s1;have ss1:=(fun i=>blk_cell s1 i);go_simp;try (with_reducible rfl))
    refine tkL (i:=10) (v:=?_) rfl ?_ ?_;rotate_left 1
    ·(intro W s1;have ss1:=(fun i=>blk_cell s1 i);go_simp;try (with_reducible rfl))
    refine wpAnyL_done (by kernel_rfl) ?_;clear hH;go_simp;go_wp2;go_ret2;exact⟨_,rfl,HZ.out⟩
   ·obtain⟨v5,W5,hc5,hF5,b5⟩:=hcS w3;obtain⟨a5,c5,rfl⟩:=hF5.sl;have kR5:=blk_below kR3 b5;have hb5:=Nm.below_two hb3 b5;go_simp;refine hK'.out _ _ kR5 (fun hH=>?_);clear hK' K;refine wpAnyL_one (i:=3) (by kernel_rfl) rfl (fun K hK'=>?_);obtain⟨v4,W4,hc4,hF4,b4⟩:=hcP W5;obtain⟨a4,c4,rfl⟩:=hF4.sl;have kT:=blk_below kR5 b4;have hbT:=Nm.below_two hb5 b4;have hy1:=hF4.read;have hy2:=(hF5.below b4).read;go_simp;refine hK'.out _ _ kT (fun hH=>?_);clear hK' K;have hbA:=hbT.alloc hbT.size (.cells #[(.slice a4 B4.length c4),(.slice a5 l.length c5),.slice (some ⟨q,0,none⟩) 4 4] 26);have bA:=(Below.refl (W4).heap.size W4).alloc (Nat.le_refl _) (.cells #[(.slice a4 B4.length c4),(.slice a5 l.length c5),.slice (some ⟨q,0,none⟩) 4 4] 26);have kA:=blk_new W4 #[(.slice a4 B4.length c4),(.slice a5 l.length c5),.slice (some ⟨q,0,none⟩) 4 4] 26;have kQ:=blk_below kT bA;have hcc:=concat3_own _ _ _ _ _ _ (W4).heap.size _ ((blk_cell kA 0).trans rfl) ((blk_cell kA 1).trans rfl) ((blk_cell kA 2).trans rfl) (hy1.below bA) (hy2.below bA) (arr_by kQ) (by rw [HB4.out];decide) (by rw [HB4.out];decide) HL.out (by simp);clear hy1 hy2 kT kA bA;refine wpAnyL_one (i:=7) (by kernel_rfl) rfl (fun K hK'=>?_);go_simp;refine hK'.out _ _ kQ (fun hH=>?_);clear hK' K;refine wpAnyL_one (i:=8) (by kernel_rfl) rfl (fun K hK'=>?_);go_simp;refine hcc.mono ?_;rintro e wF ⟨vF,rfl,hoF,bF⟩;have kF:=blk_below kQ bF;have HZ:=Nm.hide (HF.out _ _ _ hbA hoF bF);clear hcc kQ hoF bF hbA;go_wp2_with fail
    refine hK'.out _ _ kF (fun hH=>?_);clear hK' K;refine tkL (i:=9) (v:=?_) rfl ?_ ?_;rotate_left 1
    ·(intro W s1;have ss1:=(fun i=>blk_cell s1 i);go_simp;try (with_reducible rfl))
    refine tkL (i:=10) (v:=?_) rfl ?_ ?_;rotate_left 1
    ·(intro W s1;have ss1:=(fun i=>blk_cell s1 i);go_simp;try (with_reducible rfl))
    refine wpAnyL_done (by kernel_rfl) ?_;clear hH;go_simp;go_wp2;go_ret2;exact⟨_,rfl,HZ.out⟩
  ·obtain⟨v5,W5,hc5,hF5,b5⟩:=hcS X.drew;obtain⟨a5,c5,rfl⟩:=hF5.sl;have kR5:=blk_below (blk_drew kR) b5;have hb5:=Nm.below_two hb.drew b5;go_simp;refine hK'.out _ _ kR5 (fun hH=>?_);clear hK' K;refine wpAnyL_one (i:=2) (by kernel_rfl) rfl (fun K hK'=>?_);go_simp;refine(hp _).mono ?_;rintro e w3 ⟨rfl,b3⟩;have kR3:=blk_below kR5 b3;have hb3:=Nm.below_two hb5 b3;have hy5:=hF5.below b3;go_wp2_with fail
   refine hK'.out _ _ kR3 (fun hH=>?_);clear hK' K;refine wpAnyL_one (i:=3) (by kernel_rfl) rfl (fun K hK'=>?_);obtain⟨v4,W4,hc4,hF4,b4⟩:=hcP w3;obtain⟨a4,c4,rfl⟩:=hF4.sl;have kT:=blk_below kR3 b4;have hbT:=Nm.below_two hb3 b4;have hy1:=hF4.read;have hy2:=(hy5.below b4).read;go_simp;refine hK'.out _ _ kT (fun hH=>?_);clear hK' K;have hbA:=hbT.alloc hbT.size (.cells #[(.slice a4 B4.length c4),(.slice a5 l.length c5),.slice (some ⟨q,0,none⟩) 4 4] 26);have bA:=(Below.refl (W4).heap.size W4).alloc (Nat.le_refl _) (.cells #[(.slice a4 B4.length c4),(.slice a5 l.length c5),.slice (some ⟨q,0,none⟩) 4 4] 26);have kA:=blk_new W4 #[(.slice a4 B4.length c4),(.slice a5 l.length c5),.slice (some ⟨q,0,none⟩) 4 4] 26;have kQ:=blk_below kT bA;have hcc:=concat3_own _ _ _ _ _ _ (W4).heap.size _ ((blk_cell kA 0).trans rfl) ((blk_cell kA 1).trans rfl) ((blk_cell kA 2).trans rfl) (hy1.below bA) (hy2.below bA) (arr_by kQ) (by rw [HB4.out];decide) (by rw [HB4.out];decide) HL.out (by simp);clear hy1 hy2 kT kA bA;refine wpAnyL_one (i:=7) (by kernel_rfl) rfl (fun K hK'=>?_);go_simp;refine hK'.out _ _ kQ (fun hH=>?_);clear hK' K;refine wpAnyL_one (i:=8) (by kernel_rfl) rfl (fun K hK'=>?_);go_simp;refine hcc.mono ?_;rintro e wF ⟨vF,rfl,hoF,bF⟩;have kF:=blk_below kQ bF;have HZ:=Nm.hide (HF.out _ _ _ hbA hoF bF);clear hcc kQ hoF bF hbA;go_wp2_with fail
   refine hK'.out _ _ kF (fun hH=>?_);clear hK' K;refine tkL (i:=9) (v:=?_) rfl ?_ ?_;rotate_left 1
   ·(intro W s1;have ss1:=(fun i=>blk_cell s1 i);go_simp;try (with_reducible rfl))
   refine tkL (i:=10) (v:=?_) rfl ?_ ?_;rotate_left 1
   ·(intro W s1;have ss1:=(fun i=>blk_cell s1 i);go_simp;try (with_reducible rfl))
   refine wpAnyL_done (by kernel_rfl) ?_;clear hH;go_simp;go_wp2;go_ret2;exact⟨_,rfl,HZ.out⟩
end Go.Proofs.YtcihkbojmbfmmaaGreatDoor
