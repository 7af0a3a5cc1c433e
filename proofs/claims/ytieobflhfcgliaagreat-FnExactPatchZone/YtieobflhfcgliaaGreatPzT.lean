import Derived.Test.YtieobflhfcgliaaGreatJPzK
import Derived.Test.YtieobflhfcgliaaGreatDzS
import Derived.Test.YtieobflhfcgliaaGreatJStI
namespace Go.Proofs.YtieobflhfcgliaaGreat
open Go.RowKit
set_option linter.unusedVariables false
section
variable {P:Program}{ops:Array Oper}{Q:Exit->Act->World->Prop}{md:Region.Mode}{S:World->Prop}{L:Nat}
theorem tkN(i n:Nat){oi:Oper}{fuel:Nat}{listed:Array Bool}{a:Act}{w:World}(hi:ops[i]? =some oi)(hd:oi.dst=some n)
 (h:wpAnyL P md ops Q S L fuel (listed.setIfInBounds i true) (a.put (some n) undef) w)
 (hs:Region.noSelect ops=true:=by kernel_rfl) (hf:Region.free md ops listed i=true:=by kernel_rfl) (hr:(Region.ready md ops listed).contains i=true:=by kernel_rfl) (hL:waitsFor md ops L i=true:=by kernel_rfl)
 (hQ:∀ c a w,Q (.panic c) (a.put oi.dst undef) w->Q (.panic c) a w:=by exact fun _ _ _ h=>h) (hw:Region.wanted oi (yielded ops a.tmps)=false:=by kernel_rfl) (hS:S w:=by assumption):wpAnyL P md ops Q S L (fuel+1) listed a w:=
 wpAnyL_take hi hs hf hr hL hQ (Or.inr ⟨hw,rfl⟩) hS (by rw [hd];exact h)
end
set_option maxRecDepth 100000 in
set_option maxHeartbeats 6400000 in
theorem l11Patch_any(o:ByteArray)(v d a:Value)(ps:List Zp)(old new:Rr)(del add:List Rr)(w:World)(h:ZRow w v ps)(hd:CRow w d del.length 5 (rvVs del))(hda:CRow w a add.length 5 (rvVs add))(hz:zOK ps o=true)(hs:zsum ps<=1048576)(hpl:ps.length<=1048576)(hF:FitZ ps)(ho:o.size<=1048576)(hfo:old.da.size<=1048576)(hfn:RFit new∧new.own.size<=1048576∧new.da.size<=1048576)(hfa:∀ x∈add,x.own.size<=1048576∧x.da.size<=1048576)(l1:del.length<=500)(l2:add.length<=500):
 Calls Tryz.prog 38 #[.agg #[.string o,v],cgV old new d a] w (PzPost (pzC ps o old new del add) (pzL ps new del add) o w):=by
 obtain⟨va,vc,rfl⟩:∃ va vc,v=.slice va ps.length vc:=by obtain⟨⟨_,a,c,e,_⟩,_⟩:=h;exact⟨a,c,e⟩
 obtain⟨da,dc,rfl⟩:∃ da dc,d=.slice da del.length dc:=by obtain⟨_,a,c,e,_⟩:=hd;exact⟨a,c,e⟩
 obtain⟨aa,ac,rfl⟩:∃ aa ac,a=.slice aa add.length ac:=by obtain⟨_,a,c,e,_⟩:=hda;exact⟨a,c,e⟩
 obtain⟨R,HR⟩:∃ R,Hid (R=pzC ps o old new del add):=⟨_,rfl⟩;rw [<- HR.out];obtain⟨W0,hW0⟩:∃ W0,W0=((w.alloc (.cells #[.string o,.slice va ps.length vc] 35)).alloc (.cells (cgL old new (.slice da del.length dc) (.slice aa add.length ac)).toArray 30)).alloc (.cells #[.string ⟨#[]⟩,.slice none 0 0] 35):=⟨_,rfl⟩
 have b0:Below w.heap.size w W0:=by
  rw [hW0];exact(((Below.refl w.heap.size w).alloc (Nat.le_refl _) _).alloc (by simp) _).alloc (by simp;omega) _
 have ky:Blk W0 w.heap.size #[.string o,.slice va ps.length vc] 35:=by
  rw [hW0];exact blk_alloc (blk_alloc (blk_new w #[.string o,.slice va ps.length vc] 35) _) _
 have kz:Blk W0 (w.heap.size+1) (cgL old new (.slice da del.length dc) (.slice aa add.length ac)).toArray 30:=by
  rw [hW0];have:=blk_new (w.alloc (.cells #[.string o,.slice va ps.length vc] 35)) (cgL old new (.slice da del.length dc) (.slice aa add.length ac)).toArray 30;rw [World.size_alloc] at this;exact blk_alloc this _
 have kc:Blk W0 (w.heap.size+2) #[.string ⟨#[]⟩,.slice none 0 0] 35:=by
  rw [hW0];have:=blk_new ((w.alloc (.cells #[.string o,.slice va ps.length vc] 35)).alloc (.cells (cgL old new (.slice da del.length dc) (.slice aa add.length ac)).toArray 30)) #[.string ⟨#[]⟩,.slice none 0 0] 35;rw [World.size_alloc,World.size_alloc] at this;exact this
 have z0:W0.heap.size=w.heap.size+3:=by rw [hW0];simp
 have hso:=fun W (hW:Below w.heap.size w W)=>l11Soa_ok o _ ps W (h.below hW) hpl hF (by unfold maxLen;omega) hz
 have hre:=fun W (hW:Below w.heap.size w W)=>l11Rest_any o _ ps W (h.below hW) hs hpl
 have h1s:=fun W=>l11SoaSerial_any old W (by omega)
 have h2s:=fun W=>l11SoaSerial_any new W (by omega)
 have hsl:=fun W=>specSerialLess_any (ssS old) (ssS new) W
 obtain⟨al,hal⟩:=name_ofZ hz;obtain⟨r,k,s,ds,f1,g1,i1,c1,-,-,-,u1,-⟩:=zOK_soaR hz hal;have e1:soaOf ps=r:=by rw [soaOf,f1];rfl
 have t1:soB r=true:=by simp [soB,List.find?_some f1,u1]
 have n1:=zOK_len hz;have hRs:∀ x∈restR (zoneRecs ps),x.own.size<=1048576∧x.da.size<=1048576:=fun x hx=>recs_fit (fun p hp=>⟨(hF p hp).1,(hF p hp).2.2⟩) x (List.mem_filter.1 hx).1
 have hRn:(restR (zoneRecs ps)).Nodup:=(zOK_nodup hz).filter _;have hRl:(restR (zoneRecs ps)).length<=500:=by have:=List.length_filter_le (fun x=> !is6 x) (zoneRecs ps);unfold restR;omega
 have HD:Hid (R=if !eqR r old|| !cbB new old then 27 else if !heB (restR (zoneRecs ps)) del||add.any is6 then 7 else(bldE (pzL ps new del add) o).1):=by
  show _=_
  rw [HR.out,pzC,if_neg (by simp;omega),e1]
 rw [e1] at hso;clear HR f1 g1 i1 c1 u1 e1 n1 hz hs hF hpl;have HPL:Hid (pzL ps new del add=[new]++wthF (restR (zoneRecs ps)) del++add):=by show _=_;rfl
 have hPL:∀ x∈pzL ps new del add,x.own.size<=maxLen:=by
  intro x hx
  have key:x.own.size<=1048576∧x.da.size<=1048576:=by
   rw [pzL,List.mem_append,List.mem_append] at hx
   rcases hx with(hx|hx)|hx
   ·simp at hx;subst hx;exact hfn.2
   ·exact hRs x (List.mem_filter.1 hx).1
   ·exact hfa x hx
  unfold maxLen;omega
 generalize pzL ps new del add=PL at*;generalize restR (zoneRecs ps)=RS at*;have kS:Hid (∀ X,Below W0.heap.size W0 X->Blk X w.heap.size #[.string o,.slice va ps.length vc] 35∧Blk X (w.heap.size+1) (cgL old new (.slice da del.length dc) (.slice aa add.length ac)).toArray 30):=fun X hX=>⟨blk_below ky hX,blk_below kz hX⟩
 have bd:=(Below.refl W0.heap.size W0).drew;go_enter Tryz.func38,Tryz.ntmps38;go_upto_region 1 with fail
 rw [<- hW0];clear hW0;refine wp_region_last (fun X=>Blk X w.heap.size #[.string o,.slice va ps.length vc] 35∧Blk X (w.heap.size+1) (cgL old new (.slice da del.length dc) (.slice aa add.length ac)).toArray 30) 1000 (by kernel_rfl) (kS.out _ bd) (fun hHeld=>?_);refine wpAnyL_take (i:=0) (v:=?_) rfl (by kernel_rfl) (by kernel_rfl) (by kernel_rfl) (by kernel_rfl) (fun _ _ _ h=>h) (Or.inl ⟨by kernel_rfl,?_⟩) (by assumption) ?_;rotate_left 1
 ·(rintro W ⟨s1,s2⟩;have ss1:=(fun i=>blk_cell s1 i);have ss2:=(fun i=>blk_cell s2 i);go_simp;try (with_reducible rfl))
 refine wpAnyL_take (i:=2) (v:=?_) rfl (by kernel_rfl) (by kernel_rfl) (by kernel_rfl) (by kernel_rfl) (fun _ _ _ h=>h) (Or.inl ⟨by kernel_rfl,?_⟩) (by assumption) ?_;rotate_left 1
 ·(rintro W ⟨s1,s2⟩;have ss1:=(fun i=>blk_cell s1 i);have ss2:=(fun i=>blk_cell s2 i);go_simp;try (with_reducible rfl))
 refine wpAnyL_take (i:=3) (v:=?_) rfl (by kernel_rfl) (by kernel_rfl) (by kernel_rfl) (by kernel_rfl) (fun _ _ _ h=>h) (Or.inl ⟨by kernel_rfl,?_⟩) (by assumption) ?_;rotate_left 1
 ·(rintro W ⟨s1,s2⟩;have ss1:=(fun i=>blk_cell s1 i);have ss2:=(fun i=>blk_cell s2 i);go_simp;try (with_reducible rfl))
 refine wpAnyL_one (i:=1) (by kernel_rfl) rfl (fun K hK=>?_);go_simp;refine(hso _ (Nm.below_two b0 bd)).mono ?_;rintro e w1 ⟨rfl,b1⟩;have bd1:=Nm.below_two bd b1;go_wp2_with fail
 refine hK.out _ _ (kS.out _ bd1) (fun hHeld=>?_);clear hK K;have bw1:=Nm.below_two b0 bd1;have kc1:=blk_below kc bd1
 cases hq:eqR r old with
 |false=>
  have HN:Hid (R=27):=by show _=_;rw [HD.out,hq];rfl
  have rk:=fun i=>blk_cell kc1 i
  have fk:=fun i=>blk_frozen kc1 i
  have ne:(r.own.toList==old.own.toList&&r.ty==old.ty&&r.cl==old.cl&&r.tt==old.tt&&r.da.toList==old.da.toList)=false:=eqR_of.symm.trans hq;clear HD hq;refine wpAnyL_take (i:=4) (v:=.bool true) rfl (by kernel_rfl) (by kernel_rfl) (by kernel_rfl) (by kernel_rfl) (fun _ _ _ h=>h) (Or.inl ⟨by rfl,?_⟩) (by assumption) ?_
  ·intro W hW
   cases e1:(r.own.toList==old.own.toList) with
   |false=>
    clear ne
    go_simp
   |true=>
    cases e2:(r.ty==old.ty) with
    |false=>
     clear ne
     go_simp
    |true=>
     cases e3:(r.cl==old.cl) with
     |false=>
      clear ne
      go_simp
     |true=>
      cases e4:(r.tt==old.tt) with
      |false=>
       clear ne
       go_simp
      |true=>
       cases e5:(r.da.toList==old.da.toList) with
       |false=>
        clear ne
        go_simp
       |true=>
        rw [e1,e2,e3,e4,e5] at ne;cases ne
  refine wpAnyL_take (i:=5) (v:=?_) rfl (by kernel_rfl) (by kernel_rfl) (by kernel_rfl) (by kernel_rfl) (fun _ _ _ h=>h) (Or.inl ⟨by kernel_rfl,?_⟩) (by assumption) ?_;rotate_left 1
  ·(rintro W ⟨s1,s2⟩;have ss1:=(fun i=>blk_cell s1 i);have ss2:=(fun i=>blk_cell s2 i);go_simp;try (with_reducible rfl))
  refine tkN 6 22 rfl rfl ?_;refine tkN 7 23 rfl rfl ?_;refine tkN 9 25 rfl rfl ?_;refine tkN 10 26 rfl rfl ?_;refine tkN 8 24 rfl rfl ?_;refine tkN 11 27 rfl rfl ?_;refine tkN 12 28 rfl rfl ?_;refine tkN 13 29 rfl rfl ?_;refine wpAnyL_take (i:=14) (v:=?_) rfl (by kernel_rfl) (by kernel_rfl) (by kernel_rfl) (by kernel_rfl) (fun _ _ _ h=>h) (Or.inl ⟨by kernel_rfl,?_⟩) (by assumption) ?_;rotate_left 1
  ·(rintro W ⟨s1,s2⟩;have ss1:=(fun i=>blk_cell s1 i);have ss2:=(fun i=>blk_cell s2 i);go_simp;try (with_reducible rfl))
  refine wpAnyL_done (by kernel_rfl) ?_;go_simp;have kX:=setAll_new [.string ⟨#[]⟩,.slice none 0 0] kc1 rfl;have HX:=Nm.hide (below_setA (Nat.le_add_right _ 2) [.string ⟨#[]⟩,.slice none 0 0] 0 _ bw1);simp only [setAll,Nat.zero_add] at kX HX;have rX:=fun i=>blk_cell kX i
  clear kX;go_wp2;rw [HN.out];refine bodyPost_ret (v:=.tuple #[.agg #[.string ⟨#[]⟩,.slice none 0 0],.int .i64 27]) ?_ rfl ⟨_,_,rfl,Pz.bad (by decide),HX.out⟩
  simp [results,Tryz.f38,go_sem,rX]
 |true=>
  obtain rfl:=(eqR_iff r old).1 hq;rw [ss_cb t1] at hsl;obtain⟨CB,hCB⟩:∃ CB,CB=cbB new r:=⟨_,rfl⟩;rw [<- hCB] at hsl;have HCB:=Nm.hide hCB;clear hCB;refine wpAnyL_take (i:=4) (v:=?_) rfl (by kernel_rfl) (by kernel_rfl) (by kernel_rfl) (by kernel_rfl) (fun _ _ _ h=>h) (Or.inl ⟨by kernel_rfl,?_⟩) (by assumption) ?_;rotate_left 1
  ·(rintro W ⟨s1,s2⟩;have ss1:=(fun i=>blk_cell s1 i);have ss2:=(fun i=>blk_cell s2 i);go_simp;try (with_reducible rfl))
  refine wpAnyL_take (i:=5) (v:=?_) rfl (by kernel_rfl) (by kernel_rfl) (by kernel_rfl) (by kernel_rfl) (fun _ _ _ h=>h) (Or.inl ⟨by kernel_rfl,?_⟩) (by assumption) ?_;rotate_left 1
  ·(rintro W ⟨s1,s2⟩;have ss1:=(fun i=>blk_cell s1 i);have ss2:=(fun i=>blk_cell s2 i);go_simp;try (with_reducible rfl))
  refine wpAnyL_take (i:=6) (v:=?_) rfl (by kernel_rfl) (by kernel_rfl) (by kernel_rfl) (by kernel_rfl) (fun _ _ _ h=>h) (Or.inl ⟨by kernel_rfl,?_⟩) (by assumption) ?_;rotate_left 1
  ·(rintro W ⟨s1,s2⟩;have ss1:=(fun i=>blk_cell s1 i);have ss2:=(fun i=>blk_cell s2 i);go_simp;try (with_reducible rfl))
  refine wpAnyL_take (i:=7) (v:=?_) rfl (by kernel_rfl) (by kernel_rfl) (by kernel_rfl) (by kernel_rfl) (fun _ _ _ h=>h) (Or.inl ⟨by kernel_rfl,?_⟩) (by assumption) ?_;rotate_left 1
  ·(rintro W ⟨s1,s2⟩;have ss1:=(fun i=>blk_cell s1 i);have ss2:=(fun i=>blk_cell s2 i);go_simp;try (with_reducible rfl))
  refine wpAnyL_take (i:=9) (v:=?_) rfl (by kernel_rfl) (by kernel_rfl) (by kernel_rfl) (by kernel_rfl) (fun _ _ _ h=>h) (Or.inl ⟨by kernel_rfl,?_⟩) (by assumption) ?_;rotate_left 1
  ·(rintro W ⟨s1,s2⟩;have ss1:=(fun i=>blk_cell s1 i);have ss2:=(fun i=>blk_cell s2 i);go_simp;try (with_reducible rfl))
  refine wpAnyL_take (i:=10) (v:=?_) rfl (by kernel_rfl) (by kernel_rfl) (by kernel_rfl) (by kernel_rfl) (fun _ _ _ h=>h) (Or.inl ⟨by kernel_rfl,?_⟩) (by assumption) ?_;rotate_left 1
  ·(rintro W ⟨s1,s2⟩;have ss1:=(fun i=>blk_cell s1 i);have ss2:=(fun i=>blk_cell s2 i);go_simp;try (with_reducible rfl))
  refine wpAnyL_one (i:=8) (by kernel_rfl) rfl (fun K hK=>?_);go_simp;refine(h1s _).mono ?_;rintro e w2 ⟨rfl,b2⟩;have bd2:=Nm.below_two bd1 b2;go_wp2_with fail
  refine hK.out _ _ (kS.out _ bd2) (fun hHeld=>?_);clear hK K;refine wpAnyL_one (i:=11) (by kernel_rfl) rfl (fun K hK=>?_);go_simp;refine(h2s _).mono ?_;rintro e w3 ⟨rfl,b3⟩;have bd3:=Nm.below_two bd2 b3;go_wp2_with fail
  refine hK.out _ _ (kS.out _ bd3) (fun hHeld=>?_);clear hK K;refine wpAnyL_one (i:=12) (by kernel_rfl) rfl (fun K hK=>?_);go_simp;refine(hsl _).mono ?_;rintro e w4 ⟨rfl,hw4⟩;obtain rfl:=hw4.symm;go_wp2_with fail
  refine hK.out _ _ (kS.out _ bd3) (fun hHeld=>?_);clear hK K;refine wpAnyL_take (i:=13) (v:=?_) rfl (by kernel_rfl) (by kernel_rfl) (by kernel_rfl) (by kernel_rfl) (fun _ _ _ h=>h) (Or.inl ⟨by kernel_rfl,?_⟩) (by assumption) ?_;rotate_left 1
  ·(rintro W ⟨s1,s2⟩;have ss1:=(fun i=>blk_cell s1 i);have ss2:=(fun i=>blk_cell s2 i);go_simp;try (with_reducible rfl))
  refine wpAnyL_take (i:=14) (v:=?_) rfl (by kernel_rfl) (by kernel_rfl) (by kernel_rfl) (by kernel_rfl) (fun _ _ _ h=>h) (Or.inl ⟨by kernel_rfl,?_⟩) (by assumption) ?_;rotate_left 1
  ·(rintro W ⟨s1,s2⟩;have ss1:=(fun i=>blk_cell s1 i);have ss2:=(fun i=>blk_cell s2 i);go_simp;try (with_reducible rfl))
  refine wpAnyL_done (by kernel_rfl) ?_;clear hHeld bd1 kc1 bw1 bd b1 b2 b3 bd2 h1s h2s hso hsl;have bx:=bd3;clear bd3;have kyx:=blk_below ky bx;have kzx:=blk_below kz bx;have kcx:=blk_below kc bx;have bw3:=Nm.below_two b0 bx;have zx:=bx.size
  cases CB with
  |false=>
   have HN:Hid (R=27):=by show _=_;rw [HD.out,<- HCB.out,Bool.not_false,Bool.or_true];rfl
   have rk:=fun i=>blk_cell kcx i
   have fk:=fun i=>blk_frozen kcx i
   clear HD hq HCB;have kX:=setAll_new [.string ⟨#[]⟩,.slice none 0 0] kcx rfl;have HX:=Nm.hide (below_setA (Nat.le_add_right _ 2) [.string ⟨#[]⟩,.slice none 0 0] 0 _ bw3);simp only [setAll,Nat.zero_add] at kX HX;have rX:=fun i=>blk_cell kX i
   clear kX;go_wp2;rw [HN.out];refine bodyPost_ret (v:=.tuple #[.agg #[.string ⟨#[]⟩,.slice none 0 0],.int .i64 27]) ?_ rfl ⟨_,_,rfl,Pz.bad (by decide),HX.out⟩
   simp [results,Tryz.f38,go_sem,rX]
  |true=>
   have HE:Hid (R=if !heB RS del||add.any is6 then 7 else(bldE PL o).1):=by show _=_;rw [HD.out,hq,<- HCB.out];rfl
   clear HD hq HCB;obtain⟨i0,hi,hy0,hy1,hy2⟩:=info_parts Tryz.infoRw;obtain⟨_,_,_,ed,hdcap,hdmx,hdc⟩:=hd;cases ed
   have hda0:=hda;obtain⟨_,_,_,ea,hacap,hamx,hac⟩:=hda;cases ea
   have HDC:=Nm.hide hdc;have HAC:=Nm.hide hac;have HRN:=Nm.hide hRn;clear hdc hac hRn;have ry:=fun i=>blk_cell kyx i
   go_simp;go_wp2_with fail
   go_at_call 23
   refine(hre _ bw3).mono ?_;rintro e w5 ⟨rv,rfl,oR,b5⟩;have zz:w.heap.size+2<w3.heap.size:=blk_lt kcx;clear ry hre;obtain⟨ra,rc,rfl⟩:=own_sl oR;have o0:w5.ownsRow w3.heap.size 27 5 (.slice ra RS.length rc) (wthF RS (del.take 0)).length (rvVs (wthF RS (del.take 0))):=by rw [List.take_zero,wth_nil];exact oR
   clear oR;go_wp2
   go_loopw [6,7,8,9,10] (fun rv i _ _ _ wr=>∃ (j:Nat),j<=del.length∧i=.int .i64 (j:Int)∧wr.ownsRow w3.heap.size 27 5 rv (wthF RS (del.take j)).length (rvVs (wthF RS (del.take j)))∧Hid (heK RS del j=true)∧Below w3.heap.size w3 wr) (fun _ i _ _ _ _=>del.length-(intOf i).toNat)
   case atStart=>exact⟨0,Nat.zero_le _,rfl,o0,rfl,b5⟩
   case round=>
    obtain⟨j,hj,rfl,hown,HK,hb⟩:=hrel;clear o0 b5;have hsz:=hb.size;have kzr:=blk_below kzx hb;have kcr:=blk_below kcx hb;have bwr:=Nm.below_two bw3 hb;have rz:=fun i=>blk_cell kzr i
    by_cases hlt:j<del.length
    ·obtain⟨x,hx⟩:∃ x,del[j]? =some x:=⟨_,List.getElem?_eq_getElem hlt⟩;obtain⟨db,dof,rfl,hcell⟩:=HDC.out (by omega);have put:∀ {i:Nat} {z:Value},w.cell? ⟨db,dof+i,none⟩=some z->wr.cell? ⟨db,dof+i,none⟩=some z:=fun h=>(bwr.cell (World.block_lt_of_cell? w _ h)).trans h
     obtain⟨c0,c1,c2,c3,c4⟩:=rv_cells (fun i y hy=>put (hcell i y hy)) hx;have j1:(0:Int)<=(j:Int):=by omega
     have j2:(j:Int)<(del.length:Int):=by omega
     have hxl:(wthF RS (del.take j)).length<=500:=by have:=List.length_filter_le (fun x=> !hasR (del.take j) x) RS;unfold wthF;omega
     have hxn:(wthF RS (del.take j)).Nodup:=HRN.out.filter _;have HS:=Nm.hide (heK_step (xs:=RS) hx);have HW:=Nm.hide (wth_less (xs:=RS) hx);generalize wthF RS (del.take j)=XS at*;have HXN:=Nm.hide hxn;obtain⟨xa,xc,rfl⟩:=own_sl hown;have hix:=l11Index_any _ XS x wr (CRow.of_owns hown) (by omega);clear put hcell hxn
     cases hh:hasR XS x with
     |false=>
      have HN:Hid (R=7):=by
       have hf:heB RS del=false:=heK_no (by rw [HS.out,hh,Bool.and_false]) _ hlt;show _=_
       rw [HE.out,hf];rfl
      have hneg:ixR XS x<0:=by have:=ix_has XS x;rw [hh] at this;simpa using this
      clear HE HS HW HK hh hx;generalize ixR XS x=IX at*;go_wp2_with fail
      go_at_call 52
      refine hix.mono ?_;rintro e w6 ⟨rfl,b6⟩;have kc6:=blk_below kcr b6;have bw6:=Nm.below_two bwr b6;have rk:=fun i=>blk_cell kc6 i
      have fk:=fun i=>blk_frozen kc6 i
      clear rz hix;have kX:=setAll_new [.string ⟨#[]⟩,.slice none 0 0] kc6 rfl;have HX:=Nm.hide (below_setA (Nat.le_add_right _ 2) [.string ⟨#[]⟩,.slice none 0 0] 0 _ bw6);simp only [setAll,Nat.zero_add] at kX HX;have rX:=fun i=>blk_cell kX i
      clear kX;go_wp2;rw [HN.out];refine bodyPost_ret (v:=.tuple #[.agg #[.string ⟨#[]⟩,.slice none 0 0],.int .i64 7]) ?_ rfl ⟨_,_,rfl,Pz.bad (by decide),HX.out⟩
      simp [results,Tryz.f38,go_sem,rX]
     |true=>
      obtain⟨K,eK,hKx,hKl⟩:=ix_at hh;rw [eK] at hix;have HK2:Hid (heK RS del (j+1)=true):=by show _=_;rw [HS.out,HK.out,hh];rfl
      have HKX:=Nm.hide hKx;have k1:¬((K:Int)<0):=by omega
      clear HS HK hh hx eK hKx;go_wp2_with fail
      go_at_call 52
      refine hix.mono ?_;rintro e w6 ⟨rfl,b6⟩;have own6:=own_below hown b6;have o6:=World.ownsRow_lit (base:=w6.heap.size) (e:=27) (size:=5) w6 #[] 0 (Nat.le_refl _) (by decide) rfl;have B6:=Nm.below_two hb b6;have z6:=B6.size;have B7:=(Below.refl w6.heap.size w6).alloc (Nat.le_refl _) (.cells #[] 27);obtain⟨_,_,_,ex,hxcap,hxmx,hxc⟩:=CRow.of_owns own6;cases ex
      have HXC:=Nm.hide hxc;clear rz hix c0 c1 c2 c3 c4 hxc b6 own6 hown;go_wp2
      go_loopw [9,10] (fun nx i wq=>∃ (q:Nat),q<=XS.length∧i=.int .i64 (q:Int)∧wq.ownsRow w6.heap.size 27 5 nx (nxF XS K q).length (rvVs (nxF XS K q))∧Below w6.heap.size w6 wq) (fun _ i _=>XS.length-(intOf i).toNat)
      case atStart=>exact⟨0,Nat.zero_le _,rfl,o6,B7⟩
      case round=>
       obtain⟨q,hq,rfl,hownq,hbq⟩:=hrel;clear o6 B7;have hnl:=nx_len XS K q;have hszq:=hbq.size
       by_cases hlq:q<XS.length
       ·obtain⟨y,hy⟩:∃ y,XS[q]? =some y:=⟨_,List.getElem?_eq_getElem hlq⟩;obtain⟨xb,xo,rfl,hxcell⟩:=HXC.out (by omega);have put:∀ {i:Nat} {z:Value},w6.cell? ⟨xb,xo+i,none⟩=some z->wr.cell? ⟨xb,xo+i,none⟩=some z:=fun h=>(hbq.cell (World.block_lt_of_cell? w6 _ h)).trans h
        obtain⟨c0,c1,c2,c3,c4⟩:=rv_cells (fun i y hy=>put (hxcell i y hy)) hy;have q1:(0:Int)<=(q:Int):=by omega
        have q2:(q:Int)<(XS.length:Int):=by omega
        obtain⟨oa,oc,rfl⟩:=own_sl hownq;clear put hxcell
        by_cases hqk:q=K
        ·subst hqk;have e:=nx_same hy;have HO:Hid (wr.ownsRow w6.heap.size 27 5 (.slice oa (nxF XS q q).length oc) (nxF XS q (q+1)).length (rvVs (nxF XS q (q+1)))):=by show World.ownsRow _ _ _ _ _ _ _;rw [e];exact hownq
         clear e hy hownq;go_wp2;go_roundw
         case rel=>exact⟨q+1,by omega,by go_num,HO.out,hbq⟩
         case measure=>simp [intOf];omega
        ·have HNX:=Nm.hide (nx_other hy hqk);have q3:((q:Int)==(K:Int))=false:=by simp;omega
         have q4:((q:Int) != (K:Int))=true:=by simp;omega
         have q5:¬(q:Int)=(K:Int):=by omega
         clear hy hqk;generalize nxF XS K q=NX at*;go_wp2_with (at_builtin;refine wpList_append_own _ rfl (.tmp 61) (.tmp 66) 28 rfl w6.heap.size 27 i0 _ 5 56 Tryz.underlying28 hi hy0 hy1 hy2 rfl (by decide) _ _ _ rfl (hownq.alloc _) ⟨wr.heap.size,0,none⟩ 1 1 [.string y.own,.int .i64 y.ty,.int .i64 y.cl,.int .i64 y.tt,.string y.da] rfl rfl (cell_newW _ _ _ _ _ _ _ rfl) (by intro u hu;simp at hu;rcases hu with rfl|rfl|rfl|rfl|rfl<;>rfl) (by unfold maxLen;omega) (by omega) (by simp;omega) ?_;intro va wa hown9 hgrow9 hnl9;clear hnl9)
         have hb9:Below w6.heap.size w6 wa:=(hbq.alloc hszq _).grown hgrow9 (by simp;omega) (fun k hk=>(hownq.lt k hk).1);have o9:wa.ownsRow w6.heap.size 27 5 va (NX++[y]).length (rvVs (NX++[y])):=by simpa [rvVs,rvV] using hown9
         rw [<- HNX.out] at o9;clear hown9 hgrow9;go_wp2;go_roundw
         case rel=>exact⟨q+1,by omega,by go_num,o9,hb9⟩
         case measure=>simp [intOf];omega
       ·have hqn:q=XS.length:=by omega
        subst hqn;rw [nx_end HXN.out HKX.out,<- HW.out] at hownq;have oF:=own_base hownq z6;obtain⟨oa,oc,rfl⟩:=own_sl oF;go_wp2;go_roundw
        case rel=>exact⟨j+1,by omega,by go_num,oF,HK2,Nm.below_two B6 hbq⟩
        case measure=>simp [intOf];omega
    ·have hjn:j=del.length:=by omega
     subst hjn;rw [List.take_length] at hown;have HE2:Hid (R=if add.any is6 then 7 else(bldE PL o).1):=by show _=_;rw [HE.out,show heB RS del=true from HK.out];rfl
     have hWl:(wthF RS del).length<=500:=by have:=List.length_filter_le (fun x=> !hasR del x) RS;unfold wthF;omega
     clear HE HK HDC HRN hlt;generalize wthF RS del=WD at*;obtain⟨xa,xc,rfl⟩:=own_sl hown;have bsz:w.heap.size+2<wr.heap.size:=by omega
     generalize hwo:wr=wo at*;clear hwo;go_wp2
     go_loopw [11] (fun i wq=>∃ (q:Nat),q<=add.length∧i=.int .i64 (q:Int)∧Hid (∀ p y,p<q->add[p]? =some y->is6 y=false)∧wo=wq) (fun i _=>add.length-(intOf i).toNat)
     case atStart=>exact⟨0,Nat.zero_le _,rfl,(fun p y h=>absurd h (Nat.not_lt_zero _)),rfl⟩
     case round=>
      obtain⟨q,hq,rfl,HA,rfl⟩:=hrel
      by_cases hlq:q<add.length
      ·obtain⟨y,hy⟩:∃ y,add[q]? =some y:=⟨_,List.getElem?_eq_getElem hlq⟩;obtain⟨ab,ao,rfl,hacell⟩:=HAC.out (by omega);have put:∀ {i:Nat} {z:Value},w.cell? ⟨ab,ao+i,none⟩=some z->wo.cell? ⟨ab,ao+i,none⟩=some z:=fun h=>(bwr.cell (World.block_lt_of_cell? w _ h)).trans h
       obtain⟨c0,c1,c2,c3,c4⟩:=rv_cells (fun i y hy=>put (hacell i y hy)) hy;have q1:(0:Int)<=(q:Int):=by omega
       have q2:(q:Int)<(add.length:Int):=by omega
       clear put hacell
       by_cases h6:y.ty=6
       ·have HN:Hid (R=7):=by
         have hf:add.any is6=true:=List.any_eq_true.2 ⟨y,List.mem_of_getElem? hy,by simp [is6,h6]⟩;show _=_
         rw [HE2.out,hf];rfl
        have e6:(y.ty==6)=true:=by simp [h6]
        have rk:=fun i=>blk_cell kcr i
        have fk:=fun i=>blk_frozen kcr i
        clear HE2 HA h6 hy;have kX:=setAll_new [.string ⟨#[]⟩,.slice none 0 0] kcr rfl;have HX:=Nm.hide (below_setA (Nat.le_add_right _ 2) [.string ⟨#[]⟩,.slice none 0 0] 0 _ bwr);simp only [setAll,Nat.zero_add] at kX HX;have rX:=fun i=>blk_cell kX i
        clear kX;go_wp2;rw [HN.out];refine bodyPost_ret (v:=.tuple #[.agg #[.string ⟨#[]⟩,.slice none 0 0],.int .i64 7]) ?_ rfl ⟨_,_,rfl,Pz.bad (by decide),HX.out⟩;simp [results,Tryz.f38,go_sem,rX]
       ·have HA2:Hid (∀ p z,p<q+1->add[p]? =some z->is6 z=false):=by
         intro p z hp hz
         by_cases hpq:p=q
         ·subst hpq;rw [hy] at hz;obtain rfl:=Option.some.inj hz;simp [is6,h6]
         ·exact HA.out p z (by omega) hz
        have e6:(y.ty==6)=false:=by simp [h6]
        clear HA h6 hy;go_wp2;go_roundw
        case rel=>exact⟨q+1,by omega,by go_num,HA2,by trivial⟩
        case measure=>simp [intOf];omega
      ·have hqn:q=add.length:=by omega
       subst hqn
       have HN:Hid (R=(bldE PL o).1):=by
        have hf:add.any is6=false:=List.any_eq_false.2 fun z hz=>by
         obtain⟨p,hp⟩:=List.getElem?_of_mem hz;rw [HA.out p z (List.getElem?_eq_some_iff.1 hp).1 hp];decide
        show _=_
        rw [HE2.out,hf];rfl
       clear HE2 HA HAC;have kS:Hid (∀ X,Below wo.heap.size wo X->Blk X w.heap.size #[.string o,.slice va ps.length vc] 35∧Blk X (w.heap.size+1) (cgL r new (.slice da del.length dc) (.slice aa add.length ac)).toArray 30):=fun X hX=>⟨blk_below (blk_below kyx hb) hX,blk_below kzr hX⟩
       have bd:=(Below.refl wo.heap.size wo).drew;have hPl:PL.length<=1048576:=by rw [HPL.out];simp;omega
       have hbz:∀ W v,CRow W v PL.length 5 (rvVs PL)->Calls Tryz.prog 45 #[v,.string o] W fun e w'=>∃ oz vz ix,e=.returned (.tuple #[.agg #[.string oz,vz],.int .i64 R,.int .i64 ix])∧Pz R PL o w' W.heap.size oz vz∧Below W.heap.size W w':=fun W v hv=>by rw [HN.out];exact(specBuildZone_any v PL o W hv hPl (by unfold maxLen;omega) hPL).mono fun e w' hp=>bz_pz hp
       have rW:=CRow.of_owns hown;go_upto_region 22 with fail
       refine wp_region_last (fun X=>Blk X w.heap.size #[.string o,.slice va ps.length vc] 35∧Blk X (w.heap.size+1) (cgL r new (.slice da del.length dc) (.slice aa add.length ac)).toArray 30) 1000 (by kernel_rfl) (kS.out _ bd) (fun hHeld=>?_);have bx0:=bd;have rW:=rW.below bd;generalize wo.drew=x0 at*;refine wpAnyL_take (i:=0) (v:=?_) rfl (by kernel_rfl) (by kernel_rfl) (by kernel_rfl) (by kernel_rfl) (fun _ _ _ h=>h) (Or.inl ⟨by kernel_rfl,?_⟩) (by assumption) ?_;rotate_left 1
       ·(rintro W ⟨s1,s2⟩;have ss1:=(fun i=>blk_cell s1 i);have ss2:=(fun i=>blk_cell s2 i);go_simp;try (with_reducible rfl))
       refine wpAnyL_take (i:=1) (v:=?_) rfl (by kernel_rfl) (by kernel_rfl) (by kernel_rfl) (by kernel_rfl) (fun _ _ _ h=>h) (Or.inl ⟨by kernel_rfl,?_⟩) (by assumption) ?_;rotate_left 1
       ·(rintro W ⟨s1,s2⟩;have ss1:=(fun i=>blk_cell s1 i);have ss2:=(fun i=>blk_cell s2 i);go_simp;try (with_reducible rfl))
       refine wpAnyL_take (i:=3) (v:=?_) rfl (by kernel_rfl) (by kernel_rfl) (by kernel_rfl) (by kernel_rfl) (fun _ _ _ h=>h) (Or.inl ⟨by kernel_rfl,?_⟩) (by assumption) ?_;rotate_left 1
       ·(rintro W ⟨s1,s2⟩;have ss1:=(fun i=>blk_cell s1 i);have ss2:=(fun i=>blk_cell s2 i);go_simp;try (with_reducible rfl))
       refine wpAnyL_take (i:=5) (v:=?_) rfl (by kernel_rfl) (by kernel_rfl) (by kernel_rfl) (by kernel_rfl) (fun _ _ _ h=>h) (Or.inl ⟨by kernel_rfl,?_⟩) (by assumption) ?_;rotate_left 1
       ·(rintro W ⟨s1,s2⟩;have ss1:=(fun i=>blk_cell s1 i);have ss2:=(fun i=>blk_cell s2 i);go_simp;try (with_reducible rfl))
       refine wpAnyL_take (i:=6) (v:=?_) rfl (by kernel_rfl) (by kernel_rfl) (by kernel_rfl) (by kernel_rfl) (fun _ _ _ h=>h) (Or.inl ⟨by kernel_rfl,?_⟩) (by assumption) ?_;rotate_left 1
       ·(rintro W ⟨s1,s2⟩;have ss1:=(fun i=>blk_cell s1 i);have ss2:=(fun i=>blk_cell s2 i);go_simp;try (with_reducible rfl))
       refine wpAnyL_one (i:=2) (by kernel_rfl) rfl (fun K hK=>?_);go_simp;have ca:=(Below.refl x0.heap.size x0).alloc (Nat.le_refl _) (.cells #[.string new.own,.int .i64 new.ty,.int .i64 new.cl,.int .i64 new.tt,.string new.da] 27);have oN:=World.ownsRow_lit (base:=x0.heap.size) (e:=27) (size:=5) x0 #[.string new.own,.int .i64 new.ty,.int .i64 new.cl,.int .i64 new.tt,.string new.da] 1 (Nat.le_refl _) (by decide) rfl;have bN:=Nm.below_two bx0 ca;have s0:=bx0.size;have sN:x0.heap.size<=(x0.alloc (.cells #[.string new.own,.int .i64 new.ty,.int .i64 new.cl,.int .i64 new.tt,.string new.da] 27)).heap.size:=ca.size;refine hK.out _ _ (kS.out _ bN) (fun hHeld=>?_);clear hK K;obtain⟨g,hg⟩:∃ g,g=x0.heap.size:=⟨_,rfl⟩;rw [<- hg] at oN ca sN ⊢;have hj1:=l06JoinC_any _ _ [new] WD g _ oN (fun W hW=>rW.below (hg▸ca.trans hW)) sN (by simp;omega);have HG:=Nm.hide hg;have s0g:g<=x0.heap.size:=by omega
       clear hg;refine wpAnyL_one (i:=4) (by kernel_rfl) rfl (fun K hK=>?_);go_simp;refine hj1.mono ?_;rintro e x2 ⟨u,rfl,o2,c2⟩;obtain⟨ua,uc,rfl⟩:=own_sl o2;have b02:Below x0.heap.size x0 x2:=HG.out▸ca.trans c2;have bx2:=Nm.below_two bx0 b02;have s2:g<=x2.heap.size:=by have:=b02.size;omega
       go_wp2_with fail
       refine hK.out _ _ (kS.out _ bx2) (fun hHeld=>?_);clear hK K hj1 ca oN bN sN;have hj2:=l06JoinC_any _ (.slice aa add.length ac) ([new]++WD) add g x2 o2 (fun W hW=>hda0.below (Nm.below_two bwr (Nm.below_two bx0 (HG.out▸(HG.out▸b02:Below g x0 x2).trans hW)))) s2 (by simp;omega);rw [<- HPL.out] at hj2;refine wpAnyL_one (i:=7) (by kernel_rfl) rfl (fun K hK=>?_);go_simp;refine hj2.mono ?_;rintro e x3 ⟨u3,rfl,o3,c3⟩;obtain⟨ta,tc,rfl⟩:=own_sl o3;have b03:Below x0.heap.size x0 x3:=HG.out▸(HG.out▸b02:Below g x0 x2).trans c3;have bx3:=Nm.below_two bx0 b03;go_wp2_with fail
       refine hK.out _ _ (kS.out _ bx3) (fun hHeld=>?_);clear hK K hj2 o2;have r3:=CRow.of_owns o3;refine wpAnyL_take (i:=8) (v:=?_) rfl (by kernel_rfl) (by kernel_rfl) (by kernel_rfl) (by kernel_rfl) (fun _ _ _ h=>h) (Or.inl ⟨by kernel_rfl,?_⟩) (by assumption) ?_;rotate_left 1
       ·(rintro W ⟨s1,s2⟩;have ss1:=(fun i=>blk_cell s1 i);have ss2:=(fun i=>blk_cell s2 i);go_simp;try (with_reducible rfl))
       refine wpAnyL_done (by kernel_rfl) ?_;have ky3:=(kS.out _ bx3).1;have kc3:=blk_below kcr bx3;have ry3:=fun i=>blk_cell ky3 i
       have bw3':=Nm.below_two bwr bx3;have s3:=bx3.size;go_simp;go_wp2_with fail
       go_at_call 45
       refine(hbz _ _ r3).mono ?_;rintro e x4 ⟨oz,vz,ix,rfl,pz,c4⟩;obtain⟨za,zn,zc,rfl⟩:=pz.sl;have cA:=(Below.refl x4.heap.size x4).alloc (Nat.le_refl _) (.cells #[.string oz,.slice za zn zc] 35);have kV:=blk_new x4 #[.string oz,.slice za zn zc] 35;have kc5:=blk_below (blk_below kc3 c4) cA;have bw5:=Nm.below_two (Nm.below_two bw3' c4) cA;have pz5:=pz.below cA;have kX:=setAll_new [.string oz,.slice za zn zc] kc5 rfl;have HX:Hid (Pz R PL o (setAll (x4.alloc (.cells #[.string oz,.slice za zn zc] 35)) (w.heap.size+2) 0 [.string oz,.slice za zn zc]) w.heap.size oz (.slice za zn zc)∧Below w.heap.size w (setAll (x4.alloc (.cells #[.string oz,.slice za zn zc] 35)) (w.heap.size+2) 0 [.string oz,.slice za zn zc])):=⟨(Pz.far (Pz.far pz5 (by omega)) (by omega)).base (by omega),below_setA (Nat.le_add_right _ _) _ 0 _ bw5⟩;simp only [setAll,Nat.zero_add] at kX HX;have rX:=fun i=>blk_cell kX i
       have rV:=fun i=>blk_cell kV i
       have rk:=fun i=>blk_cell kc5 i
       have fk:=fun i=>blk_frozen kc5 i
       clear kX ry3;go_wp2;refine bodyPost_ret (v:=.tuple #[.agg #[.string oz,.slice za zn zc],.int .i64 R]) ?_ rfl ⟨_,_,rfl,HX.out.1,HX.out.2⟩;simp [results,Tryz.f38,go_sem,rX]
end Go.Proofs.YtieobflhfcgliaaGreat
