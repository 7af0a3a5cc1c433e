import Derived.Test.YtlddifpnkeafpaaGreatJBzFSOA
set_option linter.unusedVariables false
set_option maxRecDepth 100000
set_option maxHeartbeats 100000000
namespace Go.Proofs.YtlddifpnkeafpaaGreat
open Go.RowKit
structure Dl (w0:World) (g:Nat) (a:Option Addr) (n cap:Nat) (v:Value) (xs:List Rr) (w:World):Prop where
 d:Dr w0 g a n cap w
 r:w.ownsRow w0.heap.size 133 5 v xs.length (jC xs)
 z:∀ r∈xs,ZR r
variable {p:Nat}
section
variable {w0 w:World}{g n cap:Nat}{a:Option Addr}{v:Value}{xs:List Rr}
theorem Dl.below{w1:World}(h:Dl w0 g a n cap v xs w)(hb:Below w.heap.size w w1):Dl w0 g a n cap v xs w1:=⟨h.d.below hb,own_below h.r hb,h.z⟩
theorem Dl.step{w1:World}(h:Dl w0 g a n cap v xs w)(hs:Src w1 g a n cap)(hg:w.grownBy w1 (some g)):Dl w0 g a n cap v xs w1:=⟨h.d.step hs hg,h.d.keep h.r hg,h.z⟩
theorem Dl.alloc(h:Dl w0 g a n cap v xs w)(o:Obj):Dl w0 g a n cap v xs (w.alloc o):=h.below ((aJ _ _).alloc (aI _) _)
theorem Dl.next(h:Dl w0 g a n cap v xs w)(N:Int)(hN:1<=N)(hN2:N<=4294967296):Calls Tryz.prog 18 #[.pointer (some ⟨g,0,none⟩),.int .i64 N] w fun e w'=>∃ r:Int,e=.returned (.int .i64 r)∧0<=r∧r<N∧Dl w0 g a n cap v xs w':=
 (aW g a n cap N w h.d.s hN2).mono fun e w' ⟨r,h1,h2,h3,h4,h5⟩=>⟨r,h1,h2,h3 (by omega),h.step h4 h5⟩
theorem Dl.Cx(h:Dl w0 g a n cap v xs w):Calls Tryz.prog 20 #[.pointer (some ⟨g,0,none⟩),.int .i64 4] w fun e w'=>∃ s:ByteArray,e=.returned (.string s)∧s.size<=3200∧Dl w0 g a n cap v xs w':=
 (fG g a n cap 4 w h.d.s (by decide) (by decide)).mono fun e w' ⟨s,h1,h2,h3,h4⟩=>⟨s,h1,by omega,h.step h3 h4⟩
theorem Dl.six(h:Dl w0 g a n cap v xs w):Calls Tryz.prog 152 #[.pointer (some ⟨g,0,none⟩)] w fun e w'=>∃ s:ByteArray,e=.returned (.string s)∧s.size<=3200∧Dl w0 g a n cap v xs w':=
 (Yf g a n cap w h.d.s).mono fun e w' ⟨s,h1,h2,h3,h4⟩=>⟨s,h1,by omega,h.step h3 h4⟩
theorem Dl.label(h:Dl w0 g a n cap v xs w):Calls Tryz.prog 120 #[.pointer (some ⟨g,0,none⟩)] w fun e w'=>∃ s:ByteArray,e=.returned (.string s)∧1<=s.size∧s.size<=4∧Dl w0 g a n cap v xs w':=
 (Er g a n cap w h.d.s).mono fun e w' ⟨s,h1,h2,h3,h4⟩=>⟨s,h1,h2.1,h2.2,h.step h3 h4⟩
theorem Dl.name(h:Dl w0 g a n cap v xs w):Calls Tryz.prog 75 #[.pointer (some ⟨g,0,none⟩)] w fun e w'=>∃ s:ByteArray,e=.returned (.string s)∧s.size<=1000∧Dl w0 g a n cap v xs w':=
 (IW g a n cap w h.d.s).mono fun e w' ⟨s,h1,_,h2,h3,h4⟩=>⟨s,h1,h2,h.step h3 h4⟩
theorem Dl.data(h:Dl w0 g a n cap v xs w)(t:Nat)(ht:t∈zTs):Calls Tryz.prog 153 #[.pointer (some ⟨g,0,none⟩),.int .i64 (t:Int)] w fun e w'=>∃ s:ByteArray,e=.returned (.string s)∧s.size<=3200∧Dl w0 g a n cap v xs w':=
 (Lh t ht g a n cap w h.d.s).mono fun e w' ⟨s,h1,h2,h3,h4⟩=>⟨s,h1,by omega,h.step h3 h4⟩
theorem Dl.put2(h:Dl w0 g a n cap v xs w)(k:Nat)(hk:k<=1000000):Calls Tryz.prog 151 #[.int .i64 (k:Int),.int .i64 2] w fun e w'=>∃ s:ByteArray,e=.returned (.string s)∧s.size=2∧Dl w0 g a n cap v xs w':=
 (rY k 2 w (by omega) (by decide) (by decide)).mono fun e w' ⟨s,h1,h2,h3⟩=>⟨s,h1,h2,h.below h3⟩
theorem Dl.sub1(h:Dl w0 g a n cap v xs w)(x ab:ByteArray)(hx:x.size<=100)(ha:ab.size<=800)(hp:p=w.heap.size):Calls Tryz.prog 77 #[.slice (some ⟨p,0,none⟩) 1 1,.string ab] (w.alloc (.cells #[.string x] 9)) fun e w'=>∃ s:ByteArray,e=.returned (.string s)∧s.size=1+x.size+ab.size∧Dl w0 g a n cap v xs w':=by
 subst hp;exact(uR _ [x] ab _ (Gw w x) (by simp [Nm.cK];omega) (by omega)).mono fun e w' ⟨s,h1,h2,h3⟩=>⟨s,h1,by rw [h2];simp [Nm.cK],(h.alloc _).below h3⟩
theorem Dl.aPq(h:Dl w0 g a n cap v xs w)(x ab:ByteArray)(hx:x.size<=100)(ha:ab.size<=800)(hp:p=w.heap.size):Calls Tryz.prog 77 #[.slice (some ⟨p,0,none⟩) 1 1,.string ab] (w.alloc (.cells #[.string x] 9)) fun e w'=>∃ s:ByteArray,e=.returned (.string s)∧s=uQ [x] ab∧s.size=1+x.size+ab.size∧Dl w0 g a n cap v xs w':=by
 subst hp;exact(zU _ [x] ab _ (Gw w x) (by simp [Nm.cK];omega) (by omega)).mono fun e w' ⟨h1,h3⟩=>⟨_,h1,rfl,by rw [wU];simp [Nm.cK],(h.alloc _).below h3⟩
theorem Dl.sub2(h:Dl w0 g a n cap v xs w)(x y ab:ByteArray)(hx:x.size<=100)(hy:y.size<=100)(ha:ab.size<=800)(hp:p=w.heap.size):Calls Tryz.prog 77 #[.slice (some ⟨p,0,none⟩) 2 2,.string ab] (w.alloc (.cells #[.string x,.string y] 9)) fun e w'=>∃ s:ByteArray,e=.returned (.string s)∧s.size=1+x.size+(1+y.size)+ab.size∧Dl w0 g a n cap v xs w':=by
 subst hp;exact(uR _ [x,y] ab _ (N_ w x y) (by simp [Nm.cK];omega) (by omega)).mono fun e w' ⟨s,h1,h2,h3⟩=>⟨s,h1,by rw [h2];simp [Nm.cK],(h.alloc _).below h3⟩
theorem Dl.sub3(h:Dl w0 g a n cap v xs w)(x y z ab:ByteArray)(hx:x.size<=100)(hy:y.size<=100)(hz:z.size<=100)(ha:ab.size<=800)(hp:p=w.heap.size):Calls Tryz.prog 77 #[.slice (some ⟨p,0,none⟩) 3 3,.string ab] (w.alloc (.cells #[.string x,.string y,.string z] 9)) fun e w'=>∃ s:ByteArray,e=.returned (.string s)∧s.size=1+x.size+(1+y.size+(1+z.size))+ab.size∧Dl w0 g a n cap v xs w':=by
 subst hp;exact(uR _ [x,y,z] ab _ (aM9 w x y z) (by simp [Nm.cK];omega) (by omega)).mono fun e w' ⟨s,h1,h2,h3⟩=>⟨s,h1,by rw [h2];simp [Nm.cK],(h.alloc _).below h3⟩
theorem Dl.add(h:Dl w0 g a n cap v xs w)(o:ByteArray)(t:Int)(d:ByteArray)(hl:xs.length<=10000)(ho:o.size<=1000)(hd:d.size<=3200):Calls Tryz.prog 118 #[.pointer (some ⟨g,0,none⟩),v,.string o,.int .i64 t,.string d] w fun e w'=>∃ u ys,e=.returned u∧Hid (xs<+:ys∧ys.length=xs.length+1)∧ys.length<=xs.length+1∧Dl w0 g a n cap u ys w':=
 (Yt v xs o t d w h.d h.r hl h.z ho hd).mono fun e w' ⟨u,y,h1,h2,h3,h4⟩=>⟨u,xs++[y],h1,⟨List.prefix_append _ _,by simp⟩,by simp,h4,h3,XW h.z h2⟩
end
def PtP(w0:World)(g:Nat)(a:Option Addr)(n cap:Nat)(xs:List Rr)(e:Ending)(w':World):Prop:=∃ u ys,e=.returned u∧(xs<+:ys∧ys.length<=xs.length+3)∧Dl w0 g a n cap u ys w'
theorem Vf{w0:World}{g n cap:Nat}{a:Option Addr}(v:Value)(xs:List Rr)(ab:ByteArray)(w:World)(L0:Dl w0 g a n cap v xs w)(hl:xs.length<=5000)(Lb:1<=ab.size)(ha2:ab.size<=500):
 Calls Tryz.prog 119 #[.pointer (some ⟨g,0,none⟩),v,.string ab] w (PtP w0 g a n cap xs):=by
 obtain⟨va,vc,rfl⟩:=aT L0.r;have OB:=fun(x:Int) (W:World)=>GI x W
 go_enter Tryz.func119,Tryz.ntmps119;go_wp2_with fail
 refine L0.label.mono ?_;rintro e w1 ⟨lb,rfl,fJ,jW,L1⟩;go_wp2_with fail
 refine(L1.sub1 lb ab (by omega) (by omega) rfl).mono ?_;rintro e w2 ⟨h0,rfl,z0,L2⟩;have iQ:2<=h0.size:=by omega
 have iH:h0.size<=505:=by omega
 clear L0 L1 z0;go_upto_if 21 with fail
 go_cut [7] from 14 (fun p wx=>∃ S:ByteArray,p=.string S∧S.size<=505∧Dl w0 g a n cap (.slice va xs.length vc) xs wx)
 case first=>
  by_cases hc:((h0[1].toNat:Int)==42)=true
  ·go_wp2_with fail
   refine(L2.sub1 ⟨#[104]⟩ ab (by decide) (by omega) rfl).mono ?_;rintro e w3 ⟨h1,rfl,z1,L3⟩;go_wp2;go_meet;exact⟨h1,rfl,by rw [z1];show 1+1+ab.size<=505;omega,L3⟩
  have AX:((h0[1].toNat:Int)==42)=false:=by simpa using hc
  clear hc;go_wp2;go_meet;exact⟨h0,rfl,iH,L2⟩
 obtain⟨S,rfl,hS,L3⟩:=hcut;clear L2 iQ iH fJ jW lb;go_wp2_with fail
 refine(L3.next 14 (by decide) (by decide)).mono ?_;rintro e w4 ⟨q,rfl,IK,hq,L4⟩;clear L3;have hX:∀ c:UInt8,((⟨#[99]⟩:ByteArray)++⟨#[c]⟩).size=2:=fun c=>by rw [kU];rfl
 rcases(by omega:(q=0∨q=1)∨q=2∨q=3∨q=4∨(q=5∨q=6)∨(q=7∨q=8)∨(q=9∨q=10)∨q=11∨q=12∨q=13) with h|rfl|rfl|rfl|h|h|h|rfl|rfl|rfl
 ·rcases h with rfl|rfl
  all_goals
   go_wp2_with fail
   refine L4.Cx.mono ?_;rintro e w5 ⟨d,rfl,z5,L5⟩;clear L4;go_wp2_with fail
   refine(L5.add S 1 d (by omega) (by omega) (by omega)).mono ?_;rintro e w6 ⟨u6,ys6,rfl,aGo,lb6,L6⟩;obtain⟨va6,vc6,rfl⟩:=aT L6.r;clear L5;go_wp2;go_ret;exact⟨_,_,rfl,⟨aGo.out.1,by have:=aGo.out.2;omega⟩,L6⟩
 ·skip
  go_wp2_with fail
  refine L4.six.mono ?_;rintro e w5 ⟨d,rfl,z5,L5⟩;clear L4;go_wp2_with fail
  refine(L5.add S 28 d (by omega) (by omega) (by omega)).mono ?_;rintro e w6 ⟨u6,ys6,rfl,aGo,lb6,L6⟩;obtain⟨va6,vc6,rfl⟩:=aT L6.r;clear L5;go_wp2;go_ret;exact⟨_,_,rfl,⟨aGo.out.1,by have:=aGo.out.2;omega⟩,L6⟩
 ·skip
  go_wp2_with fail
  refine(L4.next 50 (by decide) (by decide)).mono ?_;rintro e w5 ⟨r,rfl,y5,z5,L5⟩;clear L4;go_wp2_with fail
  obtain⟨r,rfl⟩:=Int.eq_ofNat_of_zero_le y5;refine(L5.put2 r (by omega)).mono ?_;rintro e w6 ⟨p,rfl,z6,L6⟩;clear L5;go_wp2_with fail
  refine(L6.sub1 ⟨#[109,97,105,108]⟩ ab (by decide) (by omega) (by simp)).mono ?_;rintro e w7 ⟨m,rfl,z7,L7⟩
  replace z7:m.size=5+ab.size:=z7
  have q7:m.size<=510:=by omega
  clear z7;clear L6;go_wp2_with fail
  refine(L7.add S 15 (p++m) (by omega) (by omega) (by rw [kU];omega)).mono ?_;rintro e w8 ⟨u8,ys8,rfl,len8,lb8,L8⟩;obtain⟨va8,vc8,rfl⟩:=aT L8.r;clear L7;go_wp2_with fail
  refine(L8.sub1 ⟨#[109,97,105,108]⟩ ab (by decide) (by omega) (by simp)).mono ?_;rintro e w9 ⟨m2,rfl,z9,L9⟩
  replace z9:m2.size=5+ab.size:=z9
  have q9:m2.size<=510:=by omega
  clear z9;clear L8;go_wp2_with fail
  refine L9.Cx.mono ?_;rintro e P7 ⟨d,rfl,z10,L10⟩;clear L9;go_wp2_with fail
  refine(L10.add m2 1 d (by omega) (by omega) (by omega)).mono ?_;rintro e w11 ⟨u11,ys11,rfl,aKc,lb11,L11⟩;obtain⟨va11,vc11,rfl⟩:=aT L11.r;clear L10;go_wp2;go_ret;exact⟨_,_,rfl,⟨len8.out.1.trans (aKc.out.1),by have:=len8.out.2;have:=aKc.out.2;omega⟩,L11⟩
 ·skip
  have hk:=aK w4 #[.int .i64 16,.int .i64 13,.int .i64 33,.int .i64 35,.int .i64 257,.int .i64 99] 2;have LA:=L4.alloc (.cells #[.int .i64 16,.int .i64 13,.int .i64 33,.int .i64 35,.int .i64 257,.int .i64 99] 2);go_wp2_with fail
  refine(aW g a n cap 6 _ LA.d.s (by decide)).mono ?_;rintro e w5 ⟨r,rfl,GU,uG,PY,RH⟩;have wR:=uG (by decide);obtain⟨i,rfl⟩:=Int.eq_ofNat_of_zero_le GU;have hi6:i<6:=by omega
  obtain⟨t,ht⟩:∃ t,zTs[i]? =some t:=⟨_,gF (by simpa [zTs] using hi6)⟩;have hk5:=aO hk RH (by intro e;simp at e;have h1:=L4.d.lt;have h2:=L4.d.size;omega)
  have hc5:w5.cell? ⟨w4.heap.size,i,none⟩=some (.int .i64 (t:Int)):=by
   rw [aA hk5 i];have e:#[.int .i64 16,.int .i64 13,.int .i64 33,.int .i64 35,.int .i64 257,.int .i64 99]=(zTs.map (fun t:Nat=>Value.int .i64 (t:Int))).toArray:=rfl;rw [e,List.getElem?_toArray,List.getElem?_map,ht];rfl
  have L5:=LA.step PY RH;have hmt:=Nm.aD (dA ht);clear hk hk5 LA PY RH uG L4 ht;go_wp2_with fail
  refine(L5.data t hmt.out).mono ?_;rintro e w6 ⟨d,rfl,z6,L6⟩;clear L5;go_wp2_with fail
  refine(L6.add S (t:Int) d (by omega) (by omega) (by omega)).mono ?_;rintro e w7 ⟨u7,ys7,rfl,I4,lb7,L7⟩;obtain⟨va7,vc7,rfl⟩:=aT L7.r;clear L6;go_wp2;go_ret;exact⟨_,_,rfl,⟨I4.out.1,by have:=I4.out.2;omega⟩,L7⟩
 ·rcases h with rfl|rfl
  all_goals
   go_wp2_with fail
   refine(L4.sub1 ⟨#[115,117,98]⟩ ab (by decide) (by omega) (by simp)).mono ?_;rintro e w5 ⟨c,rfl,z5,L5⟩
   replace z5:c.size=4+ab.size:=z5
   have q5:c.size<=510:=by omega
   clear z5;clear L4;go_wp2_with fail
   refine(L5.sub1 ⟨#[110,115,49]⟩ c (by decide) (by omega) (by simp)).mono ?_;rintro e w6 ⟨m,rfl,z6,L6⟩
   replace z6:m.size=4+c.size:=z6
   have q6:m.size<=600:=by omega
   clear z6;clear L5;go_wp2_with fail
   refine(L6.add c 2 m (by omega) (by omega) (by omega)).mono ?_;rintro e w7 ⟨u7,ys7,rfl,I4,lb7,L7⟩;obtain⟨va7,vc7,rfl⟩:=aT L7.r;clear L6;go_wp2_with fail
   refine(L7.sub1 ⟨#[110,115,49]⟩ c (by decide) (by omega) (by simp)).mono ?_;rintro e w8 ⟨m2,rfl,z8,L8⟩
   replace z8:m2.size=4+c.size:=z8
   have q8:m2.size<=600:=by omega
   clear z8;clear L7;go_wp2_with fail
   refine L8.Cx.mono ?_;rintro e w9 ⟨d,rfl,z9,L9⟩;clear L8;go_wp2_with fail
   refine(L9.add m2 1 d (by omega) (by omega) (by omega)).mono ?_;rintro e P7 ⟨u10,aMd,rfl,CU,aMe,L10⟩;obtain⟨aMf,aMg,rfl⟩:=aT L10.r;clear L9;go_wp2_with fail
   refine(L10.next 2 (by decide) (by decide)).mono ?_;rintro e w11 ⟨r,rfl,y11,z11,L11⟩;clear L10
   by_cases hr:r=0
   ·subst hr
    next=>
     go_wp2_with fail
     refine(L11.sub1 ⟨#[110,115,49]⟩ ab (by decide) (by omega) (by simp)).mono ?_;rintro e w12 ⟨m3,rfl,z12,L12⟩
     replace z12:m3.size=4+ab.size:=z12
     have q12:m3.size<=510:=by omega
     clear z12;clear L11;go_wp2_with fail
     refine(L12.add c 2 m3 (by omega) (by omega) (by omega)).mono ?_;rintro e w13 ⟨u13,ys13,rfl,aKd,lb13,L13⟩;obtain⟨va13,vc13,rfl⟩:=aT L13.r;clear L12;go_wp2;go_ret;exact⟨_,_,rfl,⟨I4.out.1.trans (CU.out.1.trans (aKd.out.1)),by have:=I4.out.2;have:=CU.out.2;have:=aKd.out.2;omega⟩,L13⟩
   have nr:(r==0)=false:=beq_eq_false_iff_ne.2 hr
   clear hr
   next=>
    go_wp2;go_ret;exact⟨_,_,rfl,⟨I4.out.1.trans (CU.out.1),by have:=I4.out.2;have:=CU.out.2;omega⟩,L11⟩
 ·rcases h with rfl|rfl
  all_goals
   go_wp2_with fail
   refine(L4.sub1 ⟨#[42]⟩ ab (by decide) (by omega) (by simp)).mono ?_;rintro e w5 ⟨c,rfl,z5,L5⟩
   replace z5:c.size=2+ab.size:=z5
   have q5:c.size<=510:=by omega
   clear z5;clear L4;go_wp2_with fail
   refine(L5.next 2 (by decide) (by decide)).mono ?_;rintro e w6 ⟨r,rfl,y6,z6,L6⟩;clear L5
   by_cases hr:r=0
   ·subst hr
    next=>
     go_wp2_with fail
     refine(L6.sub2 ⟨#[42]⟩ ⟨#[119]⟩ ab (by decide) (by decide) (by omega) (by simp)).mono ?_;rintro e w7 ⟨c2,rfl,z7,L7⟩
     replace z7:c2.size=4+ab.size:=z7
     have q7:c2.size<=510:=by omega
     clear z7;clear L6;go_wp2_with fail
     refine(L7.next 3 (by decide) (by decide)).mono ?_;rintro e w8 ⟨r2,rfl,y8,z8,L8⟩;clear L7
     by_cases wR:r2=0
     ·subst wR
      next=>
       go_wp2_with fail
       refine(L8.sub1 ⟨#[109,97,105,108]⟩ ab (by decide) (by omega) (by simp)).mono ?_;rintro e w9 ⟨m,rfl,z9,L9⟩
       replace z9:m.size=5+ab.size:=z9
       have q9:m.size<=510:=by omega
       clear z9;clear L8;go_wp2_with fail
       have hp5:(⟨#[0,5]⟩++m:ByteArray).size<=3200:=by
        have e5:(⟨#[0,5]⟩:ByteArray).size=2:=rfl;rw [kU,e5];omega
       generalize hM5:(⟨#[0,5]⟩++m:ByteArray)=m5 at hp5 ⊢;clear hM5;refine(L9.add c2 15 m5 (by omega) (by omega) hp5).mono ?_;rintro e P7 ⟨u10,aMd,rfl,CU,aMe,L10⟩;obtain⟨aMf,aMg,rfl⟩:=aT L10.r;clear L9;go_wp2;go_ret;exact⟨_,_,rfl,⟨CU.out.1,by have:=CU.out.2;omega⟩,L10⟩
     have nr2:(r2==0)=false:=beq_eq_false_iff_ne.2 wR
     clear wR
     next=>
      go_wp2_with fail
      refine(L8.add c2 16 ⟨#[4,119,105,108,100]⟩ (by omega) (by omega) (by decide)).mono ?_;rintro e w9 ⟨u9,ys9,rfl,WV,lb9,L9⟩;obtain⟨va9,vc9,rfl⟩:=aT L9.r;clear L8;go_wp2;go_ret;exact⟨_,_,rfl,⟨WV.out.1,by have:=WV.out.2;omega⟩,L9⟩
   have nr:(r==0)=false:=beq_eq_false_iff_ne.2 hr
   clear hr
   next=>
    go_wp2_with fail
    refine(L6.next 3 (by decide) (by decide)).mono ?_;rintro e w7 ⟨r2,rfl,y7,z7,L7⟩;clear L6
    by_cases wR:r2=0
    ·subst wR
     next=>
      go_wp2_with fail
      refine(L7.sub1 ⟨#[109,97,105,108]⟩ ab (by decide) (by omega) (by simp)).mono ?_;rintro e w8 ⟨m,rfl,z8,L8⟩
      replace z8:m.size=5+ab.size:=z8
      have q8:m.size<=510:=by omega
      clear z8;clear L7;go_wp2_with fail
      have hp5:(⟨#[0,5]⟩++m:ByteArray).size<=3200:=by
       have e5:(⟨#[0,5]⟩:ByteArray).size=2:=rfl;rw [kU,e5];omega
      generalize hM5:(⟨#[0,5]⟩++m:ByteArray)=m5 at hp5 ⊢;clear hM5;refine(L8.add c 15 m5 (by omega) (by omega) hp5).mono ?_;rintro e w9 ⟨u9,ys9,rfl,WV,lb9,L9⟩;obtain⟨va9,vc9,rfl⟩:=aT L9.r;clear L8;go_wp2;go_ret;exact⟨_,_,rfl,⟨WV.out.1,by have:=WV.out.2;omega⟩,L9⟩
    have nr2:(r2==0)=false:=beq_eq_false_iff_ne.2 wR
    clear wR
    next=>
     go_wp2_with fail
     refine(L7.add c 16 ⟨#[4,119,105,108,100]⟩ (by omega) (by omega) (by decide)).mono ?_;rintro e w8 ⟨u8,ys8,rfl,len8,lb8,L8⟩;obtain⟨va8,vc8,rfl⟩:=aT L8.r;clear L7;go_wp2;go_ret;exact⟨_,_,rfl,⟨len8.out.1,by have:=len8.out.2;omega⟩,L8⟩
 ·rcases h with rfl|rfl
  all_goals
   go_wp2_with fail
   refine(L4.next 4 (by decide) (by decide)).mono ?_;rintro e w5 ⟨r,rfl,y5,z5,L5⟩;clear L4;go_wp2_with fail
   refine((L5.alloc (.cells #[.int .u8 (48+r)] 5)).next 5 (by decide) (by decide)).mono ?_;rintro e w6 ⟨r2,rfl,y6,z6,L6⟩;clear L5;go_wp2_with fail
   refine((L6.alloc (.cells #[.int .u8 (48+r2)] 5)).sub1 (p:=w6.heap.size+1) (⟨#[99]⟩++⟨#[UInt8.ofNat (48+r2).toNat]⟩) ab (by rw [hX];decide) (by omega) (by simp)).mono ?_;rintro e w7 ⟨toN,rfl,z7,L7⟩;rw [hX] at z7;have q7:toN.size<=510:=by omega
   clear z7;clear L6;go_wp2_with fail
   refine(L7.next 4 (by decide) (by decide)).mono ?_;rintro e w8 ⟨r3,rfl,y8,z8,L8⟩;clear L7
   by_cases hr3:r3=0
   ·subst hr3
    next=>
     go_wp2_with fail
     refine(L8.sub1 (p:=w8.heap.size) (⟨#[99]⟩++⟨#[UInt8.ofNat (48+r).toNat]⟩) ab (by rw [hX];decide) (by omega) rfl).mono ?_;rintro e w9 ⟨c,rfl,z9,L9⟩;rw [hX] at z9;have q9:c.size<=510:=by omega
     clear z9;clear L8;go_wp2_with fail
     refine(L9.add c 5 S (by omega) (by omega) (by omega)).mono ?_;rintro e P7 ⟨u10,aMd,rfl,CU,aMe,L10⟩;obtain⟨aMf,aMg,rfl⟩:=aT L10.r;clear L9;go_wp2;go_ret;exact⟨_,_,rfl,⟨CU.out.1,by have:=CU.out.2;omega⟩,L10⟩
   have nr3:(r3==0)=false:=beq_eq_false_iff_ne.2 hr3
   clear hr3
   next=>
    go_wp2_with fail
    refine(L8.sub1 (p:=w8.heap.size) (⟨#[99]⟩++⟨#[UInt8.ofNat (48+r).toNat]⟩) ab (by rw [hX];decide) (by omega) rfl).mono ?_;rintro e w9 ⟨c,rfl,z9,L9⟩;rw [hX] at z9;have q9:c.size<=510:=by omega
    clear z9;clear L8;go_wp2_with fail
    refine(L9.add c 5 toN (by omega) (by omega) (by omega)).mono ?_;rintro e P7 ⟨u10,aMd,rfl,CU,aMe,L10⟩;obtain⟨aMf,aMg,rfl⟩:=aT L10.r;clear L9;go_wp2;go_ret;exact⟨_,_,rfl,⟨CU.out.1,by have:=CU.out.2;omega⟩,L10⟩
 ·skip
  go_wp2_with fail
  refine(L4.sub1 ⟨#[98]⟩ ab (by decide) (by omega) (by simp)).mono ?_;rintro e w5 ⟨toN,rfl,z5,L5⟩
  replace z5:toN.size=2+ab.size:=z5
  have q5:toN.size<=510:=by omega
  clear z5;clear L4;go_wp2_with fail
  refine(L5.next 3 (by decide) (by decide)).mono ?_;rintro e w6 ⟨r,rfl,y6,z6,L6⟩;clear L5
  by_cases hr:r=0
  ·subst hr
   next=>
    go_wp2_with fail
    refine L6.name.mono ?_;rintro e w7 ⟨nm,rfl,z7,L7⟩;clear L6;go_wp2_with fail
    refine(L7.sub1 ⟨#[100,110]⟩ ab (by decide) (by omega) (by simp)).mono ?_;rintro e w8 ⟨c,rfl,z8,L8⟩
    replace z8:c.size=3+ab.size:=z8
    have q8:c.size<=510:=by omega
    clear z8;clear L7;go_wp2_with fail
    refine(L8.add c 39 nm (by omega) (by omega) (by omega)).mono ?_;rintro e w9 ⟨u9,ys9,rfl,WV,lb9,L9⟩;obtain⟨va9,vc9,rfl⟩:=aT L9.r;clear L8;go_wp2;go_ret;exact⟨_,_,rfl,⟨WV.out.1,by have:=WV.out.2;omega⟩,L9⟩
  have nr:(r==0)=false:=beq_eq_false_iff_ne.2 hr
  clear hr
  next=>
   go_wp2_with fail
   refine(L6.sub1 ⟨#[100,110]⟩ ab (by decide) (by omega) (by simp)).mono ?_;rintro e w7 ⟨c,rfl,z7,L7⟩
   replace z7:c.size=3+ab.size:=z7
   have q7:c.size<=510:=by omega
   clear z7;clear L6;go_wp2_with fail
   refine(L7.add c 39 toN (by omega) (by omega) (by omega)).mono ?_;rintro e w8 ⟨u8,ys8,rfl,len8,lb8,L8⟩;obtain⟨va8,vc8,rfl⟩:=aT L8.r;clear L7;go_wp2;go_ret;exact⟨_,_,rfl,⟨len8.out.1,by have:=len8.out.2;omega⟩,L8⟩
 ·skip
  go_wp2_with fail
  refine L4.label.mono ?_;rintro e w5 ⟨lb,rfl,y5,z5,L5⟩;clear L4;go_wp2_with fail
  refine(L5.sub3 ⟨#[120]⟩ ⟨#[121]⟩ lb ab (by decide) (by decide) (by omega) (by omega) (by simp)).mono ?_;rintro e w6 ⟨c,rfl,z6,L6⟩
  replace z6:c.size=1+1+(1+1+(1+lb.size))+ab.size:=z6
  have q6:c.size<=510:=by omega
  clear z6;clear L5;go_wp2_with fail
  refine L6.Cx.mono ?_;rintro e w7 ⟨d,rfl,z7,L7⟩;clear L6;go_wp2_with fail
  refine(L7.add c 1 d (by omega) (by omega) (by omega)).mono ?_;rintro e w8 ⟨u8,ys8,rfl,len8,lb8,L8⟩;obtain⟨va8,vc8,rfl⟩:=aT L8.r;clear L7;go_wp2;go_ret;exact⟨_,_,rfl,⟨len8.out.1,by have:=len8.out.2;omega⟩,L8⟩
 skip
 go_wp2_with fail
 refine(L4.add ab 16 ⟨#[5,97,98,111,118,101]⟩ (by omega) (by omega) (by decide)).mono ?_;rintro e w5 ⟨u5,ys5,rfl,aPr,lb5,L5⟩;obtain⟨va5,vc5,rfl⟩:=aT L5.r;clear L4;go_wp2;go_ret;exact⟨_,_,rfl,⟨aPr.out.1,by have:=aPr.out.2;omega⟩,L5⟩
