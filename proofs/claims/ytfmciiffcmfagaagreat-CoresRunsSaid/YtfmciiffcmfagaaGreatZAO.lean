/-
  joinReds, joinBlacks: their ways (made by gen_rb2.py).
-/
import Derived.Test.YtfmciiffcmfagaaGreatZAN
import Derived.Test.YtfmciiffcmfagaaGreatZAl
set_option maxRecDepth 100000
set_option maxHeartbeats 25600000
namespace Go.Proofs.YtfmciiffcmfagaaGreat
open Go.RowKit
theorem jredA_any {w:World} {ll lr rl rr m:Tr Nat} {lx rx:Itm Nat} {pl pr:Value} (hl:TrAt w (.node true ll lx lr) pl) (hr:TrAt w (.node true rl rx rr) pr)
  (IH:∀(W':World) (p q:Value),TrAt W' lr p→TrAt W' rl q→Calls Tryz.prog 107 #[p,q] W' (Makes W' m)) (cm:m.isR=false):
  Calls Tryz.prog 116 #[pl,pr] w (Makes w (.node true ll lx (.node true m rx rr))):=by
 obtain⟨bl,pll,plr,rfl,ml,hll,hlr⟩:=hl
 obtain⟨br,prl,prr,rfl,mr,hrl,hrr⟩:=hr
 obtain⟨D,hD⟩:∃D,w.drew=D:=⟨_,rfl⟩
 have TD:Turned [] w D:=hD ▸ (Turned.refl [] w).drew
 obtain⟨p0,p1,p2,p3,p4,p5⟩:=nd_cells (TD.same ml (by simp))
 obtain⟨q0,q1,q2,q3,q4,q5⟩:=nd_cells (TD.same mr (by simp))
 have HJ:=xhd (IH D _ _ (hlr.later TD) (hrl.later TD))
 have HT:=xhd TD
 have Hll:=xhd hll
 have Hrr:=xhd hrr
 have ML:=xhd ml
 have MR:=xhd mr
 obtain⟨all,rfl⟩:=hll.shape
 obtain⟨alr,rfl⟩:=hlr.shape
 obtain⟨arl,rfl⟩:=hrl.shape
 obtain⟨arr,rfl⟩:=hrr.shape
 clear IH ml mr hll hlr hrl hrr TD
 go_enter Tryz.func116,Tryz.ntmps116
 go_wp2_with fail
 refine wp_still_tail_at 8 hD (by kernel_rfl) (by kernel_rfl) ?_
 clear hD
 simp only [List.take_succ_cons,List.take_zero,List.drop_succ_cons,List.drop_zero]
 repeat still_step
 refine wpStill_nil ?_
 go_wp2_with fail
 refine HJ.out.mono ?_
 rintro e W ⟨pm,rfl,hm,tm⟩
 have TW:=HT.out.join tm
 have Kll:=xhd (Hll.out.later TW)
 have Krr:=xhd (Hrr.out.later TW)
 have Nl:=TW.same ML.out (by simp)
 have Nr:=TW.same MR.out (by simp)
 have Rm:=xhd (isRed_is (b:=false) hm cm)
 have Km:=xhd hm
 obtain⟨am,rfl⟩:=hm.shape
 obtain⟨lx1,lx2,lx3⟩:=lx
 obtain⟨rx1,rx2,rx3⟩:=rx
 have HS:Hid (∀w',Turned [] W w'→w'.cell? ⟨bl,0,none⟩=some (.int .u64 lx1)∧w'.cell? ⟨bl,1,none⟩=some (.int .i64 lx2)∧w'.cell? ⟨bl,2,none⟩=some (.pointer (some ⟨lx3,0,none⟩))∧w'.cell? ⟨bl,3,none⟩=some (.bool true)∧w'.cell? ⟨bl,4,none⟩=some (.pointer all)∧w'.cell? ⟨bl,5,none⟩=some (.pointer alr)∧w'.cell? ⟨br,0,none⟩=some (.int .u64 rx1)∧w'.cell? ⟨br,1,none⟩=some (.int .i64 rx2)∧w'.cell? ⟨br,2,none⟩=some (.pointer (some ⟨rx3,0,none⟩))∧w'.cell? ⟨br,3,none⟩=some (.bool true)∧w'.cell? ⟨br,4,none⟩=some (.pointer arl)∧w'.cell? ⟨br,5,none⟩=some (.pointer arr)∧Turned [] W w'):=by
  intro w' ht
  obtain⟨p0,p1,p2,p3,p4,p5⟩:=nd_cells (ht.same Nl (by simp))
  obtain⟨q0,q1,q2,q3,q4,q5⟩:=nd_cells (ht.same Nr (by simp))
  exact⟨p0,p1,p2,p3,p4,p5,q0,q1,q2,q3,q4,q5,ht⟩
 have HW:=xhd TW
 clear TW tm p0 p1 p2 p3 p4 p5 q0 q1 q2 q3 q4 q5 Nl Nr HJ HT ML MR Hll Hrr hm cm
 go_wp2_with fail
 refine Rm.out.mono ?_
 rintro e w1 ⟨rfl,rfl⟩
 go_wp2_with fail
 obtain⟨e0,e1,e2,e3,e4,e5,e6,e7,e8,e9,e10,e11,et⟩:=HS.out _ (Turned.refl [] W).drew
 go_region_held3 (fun w'=>w'.cell? ⟨bl,0,none⟩=some (.int .u64 lx1)∧w'.cell? ⟨bl,1,none⟩=some (.int .i64 lx2)∧w'.cell? ⟨bl,2,none⟩=some (.pointer (some ⟨lx3,0,none⟩))∧w'.cell? ⟨bl,3,none⟩=some (.bool true)∧w'.cell? ⟨bl,4,none⟩=some (.pointer all)∧w'.cell? ⟨bl,5,none⟩=some (.pointer alr)∧w'.cell? ⟨br,0,none⟩=some (.int .u64 rx1)∧w'.cell? ⟨br,1,none⟩=some (.int .i64 rx2)∧w'.cell? ⟨br,2,none⟩=some (.pointer (some ⟨rx3,0,none⟩))∧w'.cell? ⟨br,3,none⟩=some (.bool true)∧w'.cell? ⟨br,4,none⟩=some (.pointer arl)∧w'.cell? ⟨br,5,none⟩=some (.pointer arr)∧Turned [] W w')
  (first|exact⟨f0,f1,f2,f3,f4,f5,f6,f7,f8,f9,f10,f11,ft⟩ |exact⟨e0,e1,e2,e3,e4,e5,e6,e7,e8,e9,e10,e11,et⟩)
  (first
    |(go_at_call 104
      first
       |(with_reducible refine (red_any (Km.out.later (by first|exact ft|exact et)) (Krr.out.later (by first|exact ft|exact et)) (rx1,rx2,rx3)).mono ?_
         rintro e wa ⟨zg1,rfl,yg1,tg1⟩
         have g1:=xhd yg1
         try have g2:=xhd (g2.out.later tg1)
         obtain⟨f0,f1,f2,f3,f4,f5,f6,f7,f8,f9,f10,f11,ft⟩:=HS.out _ (Turned.join (by first|exact ft|exact et) tg1)
         obtain⟨vg1,rfl⟩:=yg1.shape
         clear yg1 tg1)
       |(with_reducible refine (red_any (Kll.out.later (by first|exact ft|exact et)) (g1.out) (lx1,lx2,lx3)).mono ?_
         rintro e wa ⟨zg2,rfl,yg2,tg2⟩
         have g2:=xhd yg2
         obtain⟨f0,f1,f2,f3,f4,f5,f6,f7,f8,f9,f10,f11,ft⟩:=HS.out _ (Turned.join (by first|exact ft|exact et) tg2)
         have G:=xhd (And.intro yg2 (HW.out.join ft))
         obtain⟨vg2,rfl⟩:=yg2.shape
         clear yg2 tg2)))
 all_goals
  go_wp2
  go_ret
  exact⟨_,rfl,G.out⟩
theorem jredB_any {w:World} {ll lr rl rr ma mb:Tr Nat} {lx rx z:Itm Nat} {pl pr:Value} (hl:TrAt w (.node true ll lx lr) pl) (hr:TrAt w (.node true rl rx rr) pr)
  (IH:∀(W':World) (p q:Value),TrAt W' lr p→TrAt W' rl q→Calls Tryz.prog 107 #[p,q] W' (Makes W' (.node true ma z mb))):
  Calls Tryz.prog 116 #[pl,pr] w (Makes w (.node true (.node true ll lx ma) z (.node true mb rx rr))):=by
 obtain⟨bl,pll,plr,rfl,ml,hll,hlr⟩:=hl
 obtain⟨br,prl,prr,rfl,mr,hrl,hrr⟩:=hr
 obtain⟨D,hD⟩:∃D,w.drew=D:=⟨_,rfl⟩
 have TD:Turned [] w D:=hD ▸ (Turned.refl [] w).drew
 obtain⟨p0,p1,p2,p3,p4,p5⟩:=nd_cells (TD.same ml (by simp))
 obtain⟨q0,q1,q2,q3,q4,q5⟩:=nd_cells (TD.same mr (by simp))
 have HJ:=xhd (IH D _ _ (hlr.later TD) (hrl.later TD))
 have HT:=xhd TD
 have Hll:=xhd hll
 have Hrr:=xhd hrr
 have ML:=xhd ml
 have MR:=xhd mr
 obtain⟨all,rfl⟩:=hll.shape
 obtain⟨alr,rfl⟩:=hlr.shape
 obtain⟨arl,rfl⟩:=hrl.shape
 obtain⟨arr,rfl⟩:=hrr.shape
 clear IH ml mr hll hlr hrl hrr TD
 go_enter Tryz.func116,Tryz.ntmps116
 go_wp2_with fail
 refine wp_still_tail_at 8 hD (by kernel_rfl) (by kernel_rfl) ?_
 clear hD
 simp only [List.take_succ_cons,List.take_zero,List.drop_succ_cons,List.drop_zero]
 repeat still_step
 refine wpStill_nil ?_
 go_wp2_with fail
 refine HJ.out.mono ?_
 rintro e W ⟨pm,rfl,hm,tm⟩
 have TW:=HT.out.join tm
 have Kll:=xhd (Hll.out.later TW)
 have Krr:=xhd (Hrr.out.later TW)
 have Nl:=TW.same ML.out (by simp)
 have Nr:=TW.same MR.out (by simp)
 have Rm:=xhd (isRed_is (b:=true) hm rfl)
 obtain⟨bm,pma,pmb,rfl,mm,hma,hmb⟩:=hm
 have Kma:=xhd hma
 have Kmb:=xhd hmb
 obtain⟨ama,rfl⟩:=hma.shape
 obtain⟨amb,rfl⟩:=hmb.shape
 obtain⟨lx1,lx2,lx3⟩:=lx
 obtain⟨rx1,rx2,rx3⟩:=rx
 obtain⟨z1,z2,z3⟩:=z
 have HS:Hid (∀w',Turned [] W w'→w'.cell? ⟨bl,0,none⟩=some (.int .u64 lx1)∧w'.cell? ⟨bl,1,none⟩=some (.int .i64 lx2)∧w'.cell? ⟨bl,2,none⟩=some (.pointer (some ⟨lx3,0,none⟩))∧w'.cell? ⟨bl,3,none⟩=some (.bool true)∧w'.cell? ⟨bl,4,none⟩=some (.pointer all)∧w'.cell? ⟨bl,5,none⟩=some (.pointer alr)∧w'.cell? ⟨br,0,none⟩=some (.int .u64 rx1)∧w'.cell? ⟨br,1,none⟩=some (.int .i64 rx2)∧w'.cell? ⟨br,2,none⟩=some (.pointer (some ⟨rx3,0,none⟩))∧w'.cell? ⟨br,3,none⟩=some (.bool true)∧w'.cell? ⟨br,4,none⟩=some (.pointer arl)∧w'.cell? ⟨br,5,none⟩=some (.pointer arr)∧w'.cell? ⟨bm,0,none⟩=some (.int .u64 z1)∧w'.cell? ⟨bm,1,none⟩=some (.int .i64 z2)∧w'.cell? ⟨bm,2,none⟩=some (.pointer (some ⟨z3,0,none⟩))∧w'.cell? ⟨bm,3,none⟩=some (.bool true)∧w'.cell? ⟨bm,4,none⟩=some (.pointer ama)∧w'.cell? ⟨bm,5,none⟩=some (.pointer amb)∧Turned [] W w'):=by
  intro w' ht
  obtain⟨p0,p1,p2,p3,p4,p5⟩:=nd_cells (ht.same Nl (by simp))
  obtain⟨q0,q1,q2,q3,q4,q5⟩:=nd_cells (ht.same Nr (by simp))
  obtain⟨r0,r1,r2,r3,r4,r5⟩:=nd_cells (ht.same mm (by simp))
  exact⟨p0,p1,p2,p3,p4,p5,q0,q1,q2,q3,q4,q5,r0,r1,r2,r3,r4,r5,ht⟩
 have HW:=xhd TW
 clear TW tm p0 p1 p2 p3 p4 p5 q0 q1 q2 q3 q4 q5 Nl Nr HJ HT ML MR Hll Hrr mm hma hmb
 go_wp2_with fail
 refine Rm.out.mono ?_
 rintro e w1 ⟨rfl,rfl⟩
 go_wp2_with fail
 obtain⟨e0,e1,e2,e3,e4,e5,e6,e7,e8,e9,e10,e11,e12,e13,e14,e15,e16,e17,et⟩:=HS.out _ (Turned.refl [] W).drew
 go_region_held3 (fun w'=>w'.cell? ⟨bl,0,none⟩=some (.int .u64 lx1)∧w'.cell? ⟨bl,1,none⟩=some (.int .i64 lx2)∧w'.cell? ⟨bl,2,none⟩=some (.pointer (some ⟨lx3,0,none⟩))∧w'.cell? ⟨bl,3,none⟩=some (.bool true)∧w'.cell? ⟨bl,4,none⟩=some (.pointer all)∧w'.cell? ⟨bl,5,none⟩=some (.pointer alr)∧w'.cell? ⟨br,0,none⟩=some (.int .u64 rx1)∧w'.cell? ⟨br,1,none⟩=some (.int .i64 rx2)∧w'.cell? ⟨br,2,none⟩=some (.pointer (some ⟨rx3,0,none⟩))∧w'.cell? ⟨br,3,none⟩=some (.bool true)∧w'.cell? ⟨br,4,none⟩=some (.pointer arl)∧w'.cell? ⟨br,5,none⟩=some (.pointer arr)∧w'.cell? ⟨bm,0,none⟩=some (.int .u64 z1)∧w'.cell? ⟨bm,1,none⟩=some (.int .i64 z2)∧w'.cell? ⟨bm,2,none⟩=some (.pointer (some ⟨z3,0,none⟩))∧w'.cell? ⟨bm,3,none⟩=some (.bool true)∧w'.cell? ⟨bm,4,none⟩=some (.pointer ama)∧w'.cell? ⟨bm,5,none⟩=some (.pointer amb)∧Turned [] W w')
  (first|exact⟨f0,f1,f2,f3,f4,f5,f6,f7,f8,f9,f10,f11,f12,f13,f14,f15,f16,f17,ft⟩ |exact⟨e0,e1,e2,e3,e4,e5,e6,e7,e8,e9,e10,e11,e12,e13,e14,e15,e16,e17,et⟩)
  (first
    |(go_at_call 104
      first
       |(with_reducible refine (red_any (Kll.out.later (by first|exact ft|exact et)) (Kma.out.later (by first|exact ft|exact et)) (lx1,lx2,lx3)).mono ?_
         rintro e wa ⟨zg1,rfl,yg1,tg1⟩
         have g1:=xhd yg1
         try have g2:=xhd (g2.out.later tg1)
         try have g3:=xhd (g3.out.later tg1)
         obtain⟨f0,f1,f2,f3,f4,f5,f6,f7,f8,f9,f10,f11,f12,f13,f14,f15,f16,f17,ft⟩:=HS.out _ (Turned.join (by first|exact ft|exact et) tg1)
         obtain⟨vg1,rfl⟩:=yg1.shape
         clear yg1 tg1)
       |(with_reducible refine (red_any (Kmb.out.later (by first|exact ft|exact et)) (Krr.out.later (by first|exact ft|exact et)) (rx1,rx2,rx3)).mono ?_
         rintro e wa ⟨zg2,rfl,yg2,tg2⟩
         have g2:=xhd yg2
         try have g1:=xhd (g1.out.later tg2)
         try have g3:=xhd (g3.out.later tg2)
         obtain⟨f0,f1,f2,f3,f4,f5,f6,f7,f8,f9,f10,f11,f12,f13,f14,f15,f16,f17,ft⟩:=HS.out _ (Turned.join (by first|exact ft|exact et) tg2)
         obtain⟨vg2,rfl⟩:=yg2.shape
         clear yg2 tg2)
       |(with_reducible refine (red_any (g1.out) (g2.out) (z1,z2,z3)).mono ?_
         rintro e wa ⟨zg3,rfl,yg3,tg3⟩
         have g3:=xhd yg3
         obtain⟨f0,f1,f2,f3,f4,f5,f6,f7,f8,f9,f10,f11,f12,f13,f14,f15,f16,f17,ft⟩:=HS.out _ (Turned.join (by first|exact ft|exact et) tg3)
         have G:=xhd (And.intro yg3 (HW.out.join ft))
         obtain⟨vg3,rfl⟩:=yg3.shape
         clear yg3 tg3)))
 all_goals
  go_wp2
  go_ret
  exact⟨_,rfl,G.out⟩
theorem jblkA_any {w:World} {ll lr rl rr m:Tr Nat} {lx rx:Itm Nat} {pl pr:Value} (hl:TrAt w (.node false ll lx lr) pl) (hr:TrAt w (.node false rl rx rr) pr)
  (IH:∀(W':World) (p q:Value),TrAt W' lr p→TrAt W' rl q→Calls Tryz.prog 107 #[p,q] W' (Makes W' m)) (cm:m.isR=false):
  Calls Tryz.prog 117 #[pl,pr] w (Makes w (ll.lsh lx (.node false m rx rr))):=by
 obtain⟨bl,pll,plr,rfl,ml,hll,hlr⟩:=hl
 obtain⟨br,prl,prr,rfl,mr,hrl,hrr⟩:=hr
 obtain⟨D,hD⟩:∃D,w.drew=D:=⟨_,rfl⟩
 have TD:Turned [] w D:=hD ▸ (Turned.refl [] w).drew
 obtain⟨p0,p1,p2,p3,p4,p5⟩:=nd_cells (TD.same ml (by simp))
 obtain⟨q0,q1,q2,q3,q4,q5⟩:=nd_cells (TD.same mr (by simp))
 have HJ:=xhd (IH D _ _ (hlr.later TD) (hrl.later TD))
 have HT:=xhd TD
 have Hll:=xhd hll
 have Hrr:=xhd hrr
 have ML:=xhd ml
 have MR:=xhd mr
 obtain⟨all,rfl⟩:=hll.shape
 obtain⟨alr,rfl⟩:=hlr.shape
 obtain⟨arl,rfl⟩:=hrl.shape
 obtain⟨arr,rfl⟩:=hrr.shape
 clear IH ml mr hll hlr hrl hrr TD
 go_enter Tryz.func117,Tryz.ntmps117
 go_wp2_with fail
 refine wp_still_tail_at 8 hD (by kernel_rfl) (by kernel_rfl) ?_
 clear hD
 simp only [List.take_succ_cons,List.take_zero,List.drop_succ_cons,List.drop_zero]
 repeat still_step
 refine wpStill_nil ?_
 go_wp2_with fail
 refine HJ.out.mono ?_
 rintro e W ⟨pm,rfl,hm,tm⟩
 have TW:=HT.out.join tm
 have Kll:=xhd (Hll.out.later TW)
 have Krr:=xhd (Hrr.out.later TW)
 have Nl:=TW.same ML.out (by simp)
 have Nr:=TW.same MR.out (by simp)
 have Rm:=xhd (isRed_is (b:=false) hm cm)
 have Km:=xhd hm
 obtain⟨am,rfl⟩:=hm.shape
 obtain⟨lx1,lx2,lx3⟩:=lx
 obtain⟨rx1,rx2,rx3⟩:=rx
 have HS:Hid (∀w',Turned [] W w'→w'.cell? ⟨bl,0,none⟩=some (.int .u64 lx1)∧w'.cell? ⟨bl,1,none⟩=some (.int .i64 lx2)∧w'.cell? ⟨bl,2,none⟩=some (.pointer (some ⟨lx3,0,none⟩))∧w'.cell? ⟨bl,3,none⟩=some (.bool false)∧w'.cell? ⟨bl,4,none⟩=some (.pointer all)∧w'.cell? ⟨bl,5,none⟩=some (.pointer alr)∧w'.cell? ⟨br,0,none⟩=some (.int .u64 rx1)∧w'.cell? ⟨br,1,none⟩=some (.int .i64 rx2)∧w'.cell? ⟨br,2,none⟩=some (.pointer (some ⟨rx3,0,none⟩))∧w'.cell? ⟨br,3,none⟩=some (.bool false)∧w'.cell? ⟨br,4,none⟩=some (.pointer arl)∧w'.cell? ⟨br,5,none⟩=some (.pointer arr)∧Turned [] W w'):=by
  intro w' ht
  obtain⟨p0,p1,p2,p3,p4,p5⟩:=nd_cells (ht.same Nl (by simp))
  obtain⟨q0,q1,q2,q3,q4,q5⟩:=nd_cells (ht.same Nr (by simp))
  exact⟨p0,p1,p2,p3,p4,p5,q0,q1,q2,q3,q4,q5,ht⟩
 have HW:=xhd TW
 clear TW tm p0 p1 p2 p3 p4 p5 q0 q1 q2 q3 q4 q5 Nl Nr HJ HT ML MR Hll Hrr hm cm
 go_wp2_with fail
 refine Rm.out.mono ?_
 rintro e w1 ⟨rfl,rfl⟩
 go_wp2_with fail
 obtain⟨e0,e1,e2,e3,e4,e5,e6,e7,e8,e9,e10,e11,et⟩:=HS.out _ (Turned.refl [] W).drew
 go_region_held3 (fun w'=>w'.cell? ⟨bl,0,none⟩=some (.int .u64 lx1)∧w'.cell? ⟨bl,1,none⟩=some (.int .i64 lx2)∧w'.cell? ⟨bl,2,none⟩=some (.pointer (some ⟨lx3,0,none⟩))∧w'.cell? ⟨bl,3,none⟩=some (.bool false)∧w'.cell? ⟨bl,4,none⟩=some (.pointer all)∧w'.cell? ⟨bl,5,none⟩=some (.pointer alr)∧w'.cell? ⟨br,0,none⟩=some (.int .u64 rx1)∧w'.cell? ⟨br,1,none⟩=some (.int .i64 rx2)∧w'.cell? ⟨br,2,none⟩=some (.pointer (some ⟨rx3,0,none⟩))∧w'.cell? ⟨br,3,none⟩=some (.bool false)∧w'.cell? ⟨br,4,none⟩=some (.pointer arl)∧w'.cell? ⟨br,5,none⟩=some (.pointer arr)∧Turned [] W w')
  (first|exact⟨f0,f1,f2,f3,f4,f5,f6,f7,f8,f9,f10,f11,ft⟩ |exact⟨e0,e1,e2,e3,e4,e5,e6,e7,e8,e9,e10,e11,et⟩)
  (first
    |(go_at_call 109
      first
       |(with_reducible refine (black_any (Km.out.later (by first|exact ft|exact et)) (Krr.out.later (by first|exact ft|exact et)) (rx1,rx2,rx3)).mono ?_
         rintro e wa ⟨zg1,rfl,yg1,tg1⟩
         have g1:=xhd yg1
         try have g2:=xhd (g2.out.later tg1)
         obtain⟨f0,f1,f2,f3,f4,f5,f6,f7,f8,f9,f10,f11,ft⟩:=HS.out _ (Turned.join (by first|exact ft|exact et) tg1)
         obtain⟨vg1,rfl⟩:=yg1.shape
         clear yg1 tg1))
    |(go_at_call 105
      first
       |(with_reducible refine (lshK_any (Kll.out.later (by first|exact ft|exact et)) (g1.out) (lx1,lx2,lx3)).mono ?_
         rintro e wa ⟨zg2,rfl,yg2,tg2⟩
         have g2:=xhd yg2
         obtain⟨f0,f1,f2,f3,f4,f5,f6,f7,f8,f9,f10,f11,ft⟩:=HS.out _ (Turned.join (by first|exact ft|exact et) tg2)
         have G:=xhd (And.intro yg2 (HW.out.join ft))
         obtain⟨vg2,rfl⟩:=yg2.shape
         clear yg2 tg2)))
 all_goals
  go_wp2
  go_ret
  exact⟨_,rfl,G.out⟩
theorem jblkB_any {w:World} {ll lr rl rr ma mb:Tr Nat} {lx rx z:Itm Nat} {pl pr:Value} (hl:TrAt w (.node false ll lx lr) pl) (hr:TrAt w (.node false rl rx rr) pr)
  (IH:∀(W':World) (p q:Value),TrAt W' lr p→TrAt W' rl q→Calls Tryz.prog 107 #[p,q] W' (Makes W' (.node true ma z mb))):
  Calls Tryz.prog 117 #[pl,pr] w (Makes w (.node true (.node false ll lx ma) z (.node false mb rx rr))):=by
 obtain⟨bl,pll,plr,rfl,ml,hll,hlr⟩:=hl
 obtain⟨br,prl,prr,rfl,mr,hrl,hrr⟩:=hr
 obtain⟨D,hD⟩:∃D,w.drew=D:=⟨_,rfl⟩
 have TD:Turned [] w D:=hD ▸ (Turned.refl [] w).drew
 obtain⟨p0,p1,p2,p3,p4,p5⟩:=nd_cells (TD.same ml (by simp))
 obtain⟨q0,q1,q2,q3,q4,q5⟩:=nd_cells (TD.same mr (by simp))
 have HJ:=xhd (IH D _ _ (hlr.later TD) (hrl.later TD))
 have HT:=xhd TD
 have Hll:=xhd hll
 have Hrr:=xhd hrr
 have ML:=xhd ml
 have MR:=xhd mr
 obtain⟨all,rfl⟩:=hll.shape
 obtain⟨alr,rfl⟩:=hlr.shape
 obtain⟨arl,rfl⟩:=hrl.shape
 obtain⟨arr,rfl⟩:=hrr.shape
 clear IH ml mr hll hlr hrl hrr TD
 go_enter Tryz.func117,Tryz.ntmps117
 go_wp2_with fail
 refine wp_still_tail_at 8 hD (by kernel_rfl) (by kernel_rfl) ?_
 clear hD
 simp only [List.take_succ_cons,List.take_zero,List.drop_succ_cons,List.drop_zero]
 repeat still_step
 refine wpStill_nil ?_
 go_wp2_with fail
 refine HJ.out.mono ?_
 rintro e W ⟨pm,rfl,hm,tm⟩
 have TW:=HT.out.join tm
 have Kll:=xhd (Hll.out.later TW)
 have Krr:=xhd (Hrr.out.later TW)
 have Nl:=TW.same ML.out (by simp)
 have Nr:=TW.same MR.out (by simp)
 have Rm:=xhd (isRed_is (b:=true) hm rfl)
 obtain⟨bm,pma,pmb,rfl,mm,hma,hmb⟩:=hm
 have Kma:=xhd hma
 have Kmb:=xhd hmb
 obtain⟨ama,rfl⟩:=hma.shape
 obtain⟨amb,rfl⟩:=hmb.shape
 obtain⟨lx1,lx2,lx3⟩:=lx
 obtain⟨rx1,rx2,rx3⟩:=rx
 obtain⟨z1,z2,z3⟩:=z
 have HS:Hid (∀w',Turned [] W w'→w'.cell? ⟨bl,0,none⟩=some (.int .u64 lx1)∧w'.cell? ⟨bl,1,none⟩=some (.int .i64 lx2)∧w'.cell? ⟨bl,2,none⟩=some (.pointer (some ⟨lx3,0,none⟩))∧w'.cell? ⟨bl,3,none⟩=some (.bool false)∧w'.cell? ⟨bl,4,none⟩=some (.pointer all)∧w'.cell? ⟨bl,5,none⟩=some (.pointer alr)∧w'.cell? ⟨br,0,none⟩=some (.int .u64 rx1)∧w'.cell? ⟨br,1,none⟩=some (.int .i64 rx2)∧w'.cell? ⟨br,2,none⟩=some (.pointer (some ⟨rx3,0,none⟩))∧w'.cell? ⟨br,3,none⟩=some (.bool false)∧w'.cell? ⟨br,4,none⟩=some (.pointer arl)∧w'.cell? ⟨br,5,none⟩=some (.pointer arr)∧w'.cell? ⟨bm,0,none⟩=some (.int .u64 z1)∧w'.cell? ⟨bm,1,none⟩=some (.int .i64 z2)∧w'.cell? ⟨bm,2,none⟩=some (.pointer (some ⟨z3,0,none⟩))∧w'.cell? ⟨bm,3,none⟩=some (.bool true)∧w'.cell? ⟨bm,4,none⟩=some (.pointer ama)∧w'.cell? ⟨bm,5,none⟩=some (.pointer amb)∧Turned [] W w'):=by
  intro w' ht
  obtain⟨p0,p1,p2,p3,p4,p5⟩:=nd_cells (ht.same Nl (by simp))
  obtain⟨q0,q1,q2,q3,q4,q5⟩:=nd_cells (ht.same Nr (by simp))
  obtain⟨r0,r1,r2,r3,r4,r5⟩:=nd_cells (ht.same mm (by simp))
  exact⟨p0,p1,p2,p3,p4,p5,q0,q1,q2,q3,q4,q5,r0,r1,r2,r3,r4,r5,ht⟩
 have HW:=xhd TW
 clear TW tm p0 p1 p2 p3 p4 p5 q0 q1 q2 q3 q4 q5 Nl Nr HJ HT ML MR Hll Hrr mm hma hmb
 go_wp2_with fail
 refine Rm.out.mono ?_
 rintro e w1 ⟨rfl,rfl⟩
 go_wp2_with fail
 obtain⟨e0,e1,e2,e3,e4,e5,e6,e7,e8,e9,e10,e11,e12,e13,e14,e15,e16,e17,et⟩:=HS.out _ (Turned.refl [] W).drew
 go_region_held3 (fun w'=>w'.cell? ⟨bl,0,none⟩=some (.int .u64 lx1)∧w'.cell? ⟨bl,1,none⟩=some (.int .i64 lx2)∧w'.cell? ⟨bl,2,none⟩=some (.pointer (some ⟨lx3,0,none⟩))∧w'.cell? ⟨bl,3,none⟩=some (.bool false)∧w'.cell? ⟨bl,4,none⟩=some (.pointer all)∧w'.cell? ⟨bl,5,none⟩=some (.pointer alr)∧w'.cell? ⟨br,0,none⟩=some (.int .u64 rx1)∧w'.cell? ⟨br,1,none⟩=some (.int .i64 rx2)∧w'.cell? ⟨br,2,none⟩=some (.pointer (some ⟨rx3,0,none⟩))∧w'.cell? ⟨br,3,none⟩=some (.bool false)∧w'.cell? ⟨br,4,none⟩=some (.pointer arl)∧w'.cell? ⟨br,5,none⟩=some (.pointer arr)∧w'.cell? ⟨bm,0,none⟩=some (.int .u64 z1)∧w'.cell? ⟨bm,1,none⟩=some (.int .i64 z2)∧w'.cell? ⟨bm,2,none⟩=some (.pointer (some ⟨z3,0,none⟩))∧w'.cell? ⟨bm,3,none⟩=some (.bool true)∧w'.cell? ⟨bm,4,none⟩=some (.pointer ama)∧w'.cell? ⟨bm,5,none⟩=some (.pointer amb)∧Turned [] W w')
  (first|exact⟨f0,f1,f2,f3,f4,f5,f6,f7,f8,f9,f10,f11,f12,f13,f14,f15,f16,f17,ft⟩ |exact⟨e0,e1,e2,e3,e4,e5,e6,e7,e8,e9,e10,e11,e12,e13,e14,e15,e16,e17,et⟩)
  (first
    |(go_at_call 109
      first
       |(with_reducible refine (black_any (Kll.out.later (by first|exact ft|exact et)) (Kma.out.later (by first|exact ft|exact et)) (lx1,lx2,lx3)).mono ?_
         rintro e wa ⟨zg1,rfl,yg1,tg1⟩
         have g1:=xhd yg1
         try have g2:=xhd (g2.out.later tg1)
         try have g3:=xhd (g3.out.later tg1)
         obtain⟨f0,f1,f2,f3,f4,f5,f6,f7,f8,f9,f10,f11,f12,f13,f14,f15,f16,f17,ft⟩:=HS.out _ (Turned.join (by first|exact ft|exact et) tg1)
         obtain⟨vg1,rfl⟩:=yg1.shape
         clear yg1 tg1)
       |(with_reducible refine (black_any (Kmb.out.later (by first|exact ft|exact et)) (Krr.out.later (by first|exact ft|exact et)) (rx1,rx2,rx3)).mono ?_
         rintro e wa ⟨zg2,rfl,yg2,tg2⟩
         have g2:=xhd yg2
         try have g1:=xhd (g1.out.later tg2)
         try have g3:=xhd (g3.out.later tg2)
         obtain⟨f0,f1,f2,f3,f4,f5,f6,f7,f8,f9,f10,f11,f12,f13,f14,f15,f16,f17,ft⟩:=HS.out _ (Turned.join (by first|exact ft|exact et) tg2)
         obtain⟨vg2,rfl⟩:=yg2.shape
         clear yg2 tg2))
    |(go_at_call 104
      first
       |(with_reducible refine (red_any (g1.out) (g2.out) (z1,z2,z3)).mono ?_
         rintro e wa ⟨zg3,rfl,yg3,tg3⟩
         have g3:=xhd yg3
         obtain⟨f0,f1,f2,f3,f4,f5,f6,f7,f8,f9,f10,f11,f12,f13,f14,f15,f16,f17,ft⟩:=HS.out _ (Turned.join (by first|exact ft|exact et) tg3)
         have G:=xhd (And.intro yg3 (HW.out.join ft))
         obtain⟨vg3,rfl⟩:=yg3.shape
         clear yg3 tg3)))
 all_goals
  go_wp2
  go_ret
  exact⟨_,rfl,G.out⟩
end Go.Proofs.YtfmciiffcmfagaaGreat
