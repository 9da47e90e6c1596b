/-
  The ways of balance (made by gen_rb.py).
-/
import Derived.Test.YtfmciiffcmfagaaGreatZAJ
import Derived.Test.YtfmciiffcmfagaaGreatZAl
set_option maxRecDepth 100000
set_option maxHeartbeats 25600000
namespace Go.Proofs.YtfmciiffcmfagaaGreat
open Go.RowKit
theorem balB_any {w:World} {ll:Tr Nat} {lr:Tr Nat} {r:Tr Nat} {y:Itm Nat} {pl pr:Value} (hl:TrAt w (.node true ll y lr) pl) (hr:TrAt w r pr) (x:Itm Nat) (cll:ll.isR=true) (cr:r.isR=false):
  Calls Tryz.prog 113 #[pl,itV x,pr] w (Makes w (.node true ll.root y (.node false lr x r))):=by
 obtain⟨W,hW⟩:∃W,w.alloc (.cells #[.int .u64 x.1, .int .i64 x.2.1, .pointer (some ⟨x.2.2,0,none⟩)] tIt)=W:=⟨_,rfl⟩
 have TW:Turned [] w W:=hW ▸ (Turned.refl [] w).alloc _
 have BW:Bx W w.heap.size x:=hW ▸ bx_new w x
 have Rl:=xhd (isRed_is (b:=true) (hl.later TW) rfl)
 have Kl:=xhd (hl.later TW)
 obtain⟨bl,pll,plr,rfl,ml,hll,hlr⟩:=hl
 have Nl:=TW.same ml (by simp)
 have Rll:=xhd (isRed_is (hll.later TW) cll)
 have Kll:=xhd (hll.later TW)
 have Klr:=xhd (hlr.later TW)
 have Rr:=xhd (isRed_is (hr.later TW) cr)
 have Kr:=xhd (hr.later TW)
 obtain⟨all,rfl⟩:=hll.shape
 obtain⟨alr,rfl⟩:=hlr.shape
 obtain⟨ar,rfl⟩:=hr.shape
 have HS:Hid (∀w',Turned [] W w'→w'.cell? ⟨w.heap.size,0,none⟩=some (.int .u64 x.1)∧w'.cell? ⟨w.heap.size,1,none⟩=some (.int .i64 x.2.1)∧w'.cell? ⟨w.heap.size,2,none⟩=some (.pointer (some ⟨x.2.2,0,none⟩))∧w'.cell? ⟨bl,0,none⟩=some (.int .u64 y.1)∧w'.cell? ⟨bl,1,none⟩=some (.int .i64 y.2.1)∧w'.cell? ⟨bl,2,none⟩=some (.pointer (some ⟨y.2.2,0,none⟩))∧w'.cell? ⟨bl,3,none⟩=some (.bool true)∧w'.cell? ⟨bl,4,none⟩=some (.pointer all)∧w'.cell? ⟨bl,5,none⟩=some (.pointer alr)∧Turned [] W w'):=by
  intro w' ht
  obtain⟨x0,x1,x2⟩:=bx_cells (ht.same BW (by simp))
  obtain⟨lq0,lq1,lq2,lq3,lq4,lq5⟩:=nd_cells (ht.same Nl (by simp))
  exact⟨x0,x1,x2,lq0,lq1,lq2,lq3,lq4,lq5,ht⟩
 have HT:=xhd TW
 obtain⟨x1,x2,x3⟩:=x
 obtain⟨y1,y2,y3⟩:=y
 simp only [itV] at hW HS ⊢
 clear TW BW ml Nl hll hlr hr cll cr
 obtain⟨d0,d1,d2,d3,d4,d5,d6,d7,d8,dt⟩:=HS.out _ (Turned.refl [] W)
 go_enter Tryz.func113,Tryz.ntmps113
 repeat (go_wp2_with fail;first|(with_reducible refine Rl.out.mono ?_;rintro e w1 ⟨rfl,rfl⟩) |(with_reducible refine Rll.out.mono ?_;rintro e w1 ⟨rfl,rfl⟩) |(with_reducible refine Rr.out.mono ?_;rintro e w1 ⟨rfl,rfl⟩))
 go_wp2_with fail
 obtain⟨e0,e1,e2,e3,e4,e5,e6,e7,e8,et⟩:=HS.out _ (Turned.refl [] W).drew
 go_region_held3 (fun w'=>w'.cell? ⟨w.heap.size,0,none⟩=some (.int .u64 x1)∧w'.cell? ⟨w.heap.size,1,none⟩=some (.int .i64 x2)∧w'.cell? ⟨w.heap.size,2,none⟩=some (.pointer (some ⟨x3,0,none⟩))∧w'.cell? ⟨bl,0,none⟩=some (.int .u64 y1)∧w'.cell? ⟨bl,1,none⟩=some (.int .i64 y2)∧w'.cell? ⟨bl,2,none⟩=some (.pointer (some ⟨y3,0,none⟩))∧w'.cell? ⟨bl,3,none⟩=some (.bool true)∧w'.cell? ⟨bl,4,none⟩=some (.pointer all)∧w'.cell? ⟨bl,5,none⟩=some (.pointer alr)∧Turned [] W w')
  (first|exact⟨f0,f1,f2,f3,f4,f5,f6,f7,f8,ft⟩ |exact⟨e0,e1,e2,e3,e4,e5,e6,e7,e8,et⟩)
  (first
    |(go_at_call 96
      first
       |(with_reducible refine (asRoot_any (Kll.out.later (by first|exact ft|exact et))).mono ?_
         rintro e wa ⟨zg1,rfl,yg1,tg1⟩
         have g1:=xhd yg1
         try have g2:=xhd (g2.out.later tg1)
         try have g3:=xhd (g3.out.later tg1)
         obtain⟨f0,f1,f2,f3,f4,f5,f6,f7,f8,ft⟩:=HS.out _ (Turned.join (by first|exact ft|exact et) tg1)
         obtain⟨vg1,rfl⟩:=yg1.shape
         clear yg1 tg1))
    |(go_at_call 109
      first
       |(with_reducible refine (black_any (Klr.out.later (by first|exact ft|exact et)) (Kr.out.later (by first|exact ft|exact et)) (x1,x2,x3)).mono ?_
         rintro e wa ⟨zg2,rfl,yg2,tg2⟩
         have g2:=xhd yg2
         try have g1:=xhd (g1.out.later tg2)
         try have g3:=xhd (g3.out.later tg2)
         obtain⟨f0,f1,f2,f3,f4,f5,f6,f7,f8,ft⟩:=HS.out _ (Turned.join (by first|exact ft|exact et) tg2)
         obtain⟨vg2,rfl⟩:=yg2.shape
         clear yg2 tg2))
    |(go_at_call 104
      first
       |(with_reducible refine (red_any (g1.out) (g2.out) (y1,y2,y3)).mono ?_
         rintro e wa ⟨zg3,rfl,yg3,tg3⟩
         have g3:=xhd yg3
         obtain⟨f0,f1,f2,f3,f4,f5,f6,f7,f8,ft⟩:=HS.out _ (Turned.join (by first|exact ft|exact et) tg3)
         have G:=xhd (And.intro yg3 (HT.out.join ft))
         obtain⟨vg3,rfl⟩:=yg3.shape
         clear yg3 tg3)))
 all_goals
  go_wp2
  go_ret
  exact⟨_,rfl,G.out⟩
theorem balC_any {w:World} {ll:Tr Nat} {ma:Tr Nat} {mb:Tr Nat} {r:Tr Nat} {y:Itm Nat} {z:Itm Nat} {pl pr:Value} (hl:TrAt w (.node true ll y (.node true ma z mb)) pl) (hr:TrAt w r pr) (x:Itm Nat) (cll:ll.isR=false) (cr:r.isR=false):
  Calls Tryz.prog 113 #[pl,itV x,pr] w (Makes w (.node true (.node false ll y ma) z (.node false mb x r))):=by
 obtain⟨W,hW⟩:∃W,w.alloc (.cells #[.int .u64 x.1, .int .i64 x.2.1, .pointer (some ⟨x.2.2,0,none⟩)] tIt)=W:=⟨_,rfl⟩
 have TW:Turned [] w W:=hW ▸ (Turned.refl [] w).alloc _
 have BW:Bx W w.heap.size x:=hW ▸ bx_new w x
 have Rl:=xhd (isRed_is (b:=true) (hl.later TW) rfl)
 have Kl:=xhd (hl.later TW)
 obtain⟨bl,pll,pm,rfl,ml,hll,hm⟩:=hl
 have Nl:=TW.same ml (by simp)
 have Rll:=xhd (isRed_is (hll.later TW) cll)
 have Kll:=xhd (hll.later TW)
 have Rm:=xhd (isRed_is (b:=true) (hm.later TW) rfl)
 have Km:=xhd (hm.later TW)
 obtain⟨bm,pma,pmb,rfl,mm,hma,hmb⟩:=hm
 have Nm:=TW.same mm (by simp)
 have Kma:=xhd (hma.later TW)
 have Kmb:=xhd (hmb.later TW)
 have Rr:=xhd (isRed_is (hr.later TW) cr)
 have Kr:=xhd (hr.later TW)
 obtain⟨all,rfl⟩:=hll.shape
 obtain⟨ama,rfl⟩:=hma.shape
 obtain⟨amb,rfl⟩:=hmb.shape
 obtain⟨ar,rfl⟩:=hr.shape
 have HS:Hid (∀w',Turned [] W w'→w'.cell? ⟨w.heap.size,0,none⟩=some (.int .u64 x.1)∧w'.cell? ⟨w.heap.size,1,none⟩=some (.int .i64 x.2.1)∧w'.cell? ⟨w.heap.size,2,none⟩=some (.pointer (some ⟨x.2.2,0,none⟩))∧w'.cell? ⟨bl,0,none⟩=some (.int .u64 y.1)∧w'.cell? ⟨bl,1,none⟩=some (.int .i64 y.2.1)∧w'.cell? ⟨bl,2,none⟩=some (.pointer (some ⟨y.2.2,0,none⟩))∧w'.cell? ⟨bl,3,none⟩=some (.bool true)∧w'.cell? ⟨bl,4,none⟩=some (.pointer all)∧w'.cell? ⟨bl,5,none⟩=some (.pointer (some ⟨bm,0,none⟩))∧w'.cell? ⟨bm,0,none⟩=some (.int .u64 z.1)∧w'.cell? ⟨bm,1,none⟩=some (.int .i64 z.2.1)∧w'.cell? ⟨bm,2,none⟩=some (.pointer (some ⟨z.2.2,0,none⟩))∧w'.cell? ⟨bm,3,none⟩=some (.bool true)∧w'.cell? ⟨bm,4,none⟩=some (.pointer ama)∧w'.cell? ⟨bm,5,none⟩=some (.pointer amb)∧Turned [] W w'):=by
  intro w' ht
  obtain⟨x0,x1,x2⟩:=bx_cells (ht.same BW (by simp))
  obtain⟨lq0,lq1,lq2,lq3,lq4,lq5⟩:=nd_cells (ht.same Nl (by simp))
  obtain⟨mq0,mq1,mq2,mq3,mq4,mq5⟩:=nd_cells (ht.same Nm (by simp))
  exact⟨x0,x1,x2,lq0,lq1,lq2,lq3,lq4,lq5,mq0,mq1,mq2,mq3,mq4,mq5,ht⟩
 have HT:=xhd TW
 obtain⟨x1,x2,x3⟩:=x
 obtain⟨y1,y2,y3⟩:=y
 obtain⟨z1,z2,z3⟩:=z
 simp only [itV] at hW HS ⊢
 clear TW BW ml mm Nl Nm hll hma hmb hr cll cr
 obtain⟨d0,d1,d2,d3,d4,d5,d6,d7,d8,d9,d10,d11,d12,d13,d14,dt⟩:=HS.out _ (Turned.refl [] W)
 go_enter Tryz.func113,Tryz.ntmps113
 repeat (go_wp2_with fail;first|(with_reducible refine Rl.out.mono ?_;rintro e w1 ⟨rfl,rfl⟩) |(with_reducible refine Rll.out.mono ?_;rintro e w1 ⟨rfl,rfl⟩) |(with_reducible refine Rm.out.mono ?_;rintro e w1 ⟨rfl,rfl⟩) |(with_reducible refine Rr.out.mono ?_;rintro e w1 ⟨rfl,rfl⟩))
 go_wp2_with fail
 obtain⟨e0,e1,e2,e3,e4,e5,e6,e7,e8,e9,e10,e11,e12,e13,e14,et⟩:=HS.out _ (Turned.refl [] W).drew
 go_region_held3 (fun w'=>w'.cell? ⟨w.heap.size,0,none⟩=some (.int .u64 x1)∧w'.cell? ⟨w.heap.size,1,none⟩=some (.int .i64 x2)∧w'.cell? ⟨w.heap.size,2,none⟩=some (.pointer (some ⟨x3,0,none⟩))∧w'.cell? ⟨bl,0,none⟩=some (.int .u64 y1)∧w'.cell? ⟨bl,1,none⟩=some (.int .i64 y2)∧w'.cell? ⟨bl,2,none⟩=some (.pointer (some ⟨y3,0,none⟩))∧w'.cell? ⟨bl,3,none⟩=some (.bool true)∧w'.cell? ⟨bl,4,none⟩=some (.pointer all)∧w'.cell? ⟨bl,5,none⟩=some (.pointer (some ⟨bm,0,none⟩))∧w'.cell? ⟨bm,0,none⟩=some (.int .u64 z1)∧w'.cell? ⟨bm,1,none⟩=some (.int .i64 z2)∧w'.cell? ⟨bm,2,none⟩=some (.pointer (some ⟨z3,0,none⟩))∧w'.cell? ⟨bm,3,none⟩=some (.bool true)∧w'.cell? ⟨bm,4,none⟩=some (.pointer ama)∧w'.cell? ⟨bm,5,none⟩=some (.pointer amb)∧Turned [] W w')
  (first|exact⟨f0,f1,f2,f3,f4,f5,f6,f7,f8,f9,f10,f11,f12,f13,f14,ft⟩ |exact⟨e0,e1,e2,e3,e4,e5,e6,e7,e8,e9,e10,e11,e12,e13,e14,et⟩)
  (first
    |(go_at_call 109
      first
       |(with_reducible refine (black_any (Kll.out.later (by first|exact ft|exact et)) (Kma.out.later (by first|exact ft|exact et)) (y1,y2,y3)).mono ?_
         rintro e wa ⟨zg1,rfl,yg1,tg1⟩
         have g1:=xhd yg1
         try have g2:=xhd (g2.out.later tg1)
         try have g3:=xhd (g3.out.later tg1)
         obtain⟨f0,f1,f2,f3,f4,f5,f6,f7,f8,f9,f10,f11,f12,f13,f14,ft⟩:=HS.out _ (Turned.join (by first|exact ft|exact et) tg1)
         obtain⟨vg1,rfl⟩:=yg1.shape
         clear yg1 tg1)
       |(with_reducible refine (black_any (Kmb.out.later (by first|exact ft|exact et)) (Kr.out.later (by first|exact ft|exact et)) (x1,x2,x3)).mono ?_
         rintro e wa ⟨zg2,rfl,yg2,tg2⟩
         have g2:=xhd yg2
         try have g1:=xhd (g1.out.later tg2)
         try have g3:=xhd (g3.out.later tg2)
         obtain⟨f0,f1,f2,f3,f4,f5,f6,f7,f8,f9,f10,f11,f12,f13,f14,ft⟩:=HS.out _ (Turned.join (by first|exact ft|exact et) tg2)
         obtain⟨vg2,rfl⟩:=yg2.shape
         clear yg2 tg2))
    |(go_at_call 104
      first
       |(with_reducible refine (red_any (g1.out) (g2.out) (z1,z2,z3)).mono ?_
         rintro e wa ⟨zg3,rfl,yg3,tg3⟩
         have g3:=xhd yg3
         obtain⟨f0,f1,f2,f3,f4,f5,f6,f7,f8,f9,f10,f11,f12,f13,f14,ft⟩:=HS.out _ (Turned.join (by first|exact ft|exact et) tg3)
         have G:=xhd (And.intro yg3 (HT.out.join ft))
         obtain⟨vg3,rfl⟩:=yg3.shape
         clear yg3 tg3)))
 all_goals
  go_wp2
  go_ret
  exact⟨_,rfl,G.out⟩
theorem balD_any {w:World} {l:Tr Nat} {rl:Tr Nat} {rr:Tr Nat} {y:Itm Nat} {pl pr:Value} (hl:TrAt w l pl) (hr:TrAt w (.node true rl y rr) pr) (x:Itm Nat) (cl:l.isR=false) (crr:rr.isR=true):
  Calls Tryz.prog 113 #[pl,itV x,pr] w (Makes w (.node true (.node false l x rl) y rr.root)):=by
 obtain⟨W,hW⟩:∃W,w.alloc (.cells #[.int .u64 x.1, .int .i64 x.2.1, .pointer (some ⟨x.2.2,0,none⟩)] tIt)=W:=⟨_,rfl⟩
 have TW:Turned [] w W:=hW ▸ (Turned.refl [] w).alloc _
 have BW:Bx W w.heap.size x:=hW ▸ bx_new w x
 have Rl:=xhd (isRed_is (hl.later TW) cl)
 have Kl:=xhd (hl.later TW)
 have Rr:=xhd (isRed_is (b:=true) (hr.later TW) rfl)
 have Kr:=xhd (hr.later TW)
 obtain⟨br,prl,prr,rfl,mr,hrl,hrr⟩:=hr
 have Nr:=TW.same mr (by simp)
 have Krl:=xhd (hrl.later TW)
 have Rrr:=xhd (isRed_is (hrr.later TW) crr)
 have Krr:=xhd (hrr.later TW)
 obtain⟨al,rfl⟩:=hl.shape
 obtain⟨arl,rfl⟩:=hrl.shape
 obtain⟨arr,rfl⟩:=hrr.shape
 have HS:Hid (∀w',Turned [] W w'→w'.cell? ⟨w.heap.size,0,none⟩=some (.int .u64 x.1)∧w'.cell? ⟨w.heap.size,1,none⟩=some (.int .i64 x.2.1)∧w'.cell? ⟨w.heap.size,2,none⟩=some (.pointer (some ⟨x.2.2,0,none⟩))∧w'.cell? ⟨br,0,none⟩=some (.int .u64 y.1)∧w'.cell? ⟨br,1,none⟩=some (.int .i64 y.2.1)∧w'.cell? ⟨br,2,none⟩=some (.pointer (some ⟨y.2.2,0,none⟩))∧w'.cell? ⟨br,3,none⟩=some (.bool true)∧w'.cell? ⟨br,4,none⟩=some (.pointer arl)∧w'.cell? ⟨br,5,none⟩=some (.pointer arr)∧Turned [] W w'):=by
  intro w' ht
  obtain⟨x0,x1,x2⟩:=bx_cells (ht.same BW (by simp))
  obtain⟨rq0,rq1,rq2,rq3,rq4,rq5⟩:=nd_cells (ht.same Nr (by simp))
  exact⟨x0,x1,x2,rq0,rq1,rq2,rq3,rq4,rq5,ht⟩
 have HT:=xhd TW
 obtain⟨x1,x2,x3⟩:=x
 obtain⟨y1,y2,y3⟩:=y
 simp only [itV] at hW HS ⊢
 clear TW BW mr Nr hl hrl hrr cl crr
 obtain⟨d0,d1,d2,d3,d4,d5,d6,d7,d8,dt⟩:=HS.out _ (Turned.refl [] W)
 go_enter Tryz.func113,Tryz.ntmps113
 repeat (go_wp2_with fail;first|(with_reducible refine Rl.out.mono ?_;rintro e w1 ⟨rfl,rfl⟩) |(with_reducible refine Rr.out.mono ?_;rintro e w1 ⟨rfl,rfl⟩) |(with_reducible refine Rrr.out.mono ?_;rintro e w1 ⟨rfl,rfl⟩))
 go_wp2_with fail
 obtain⟨e0,e1,e2,e3,e4,e5,e6,e7,e8,et⟩:=HS.out _ (Turned.refl [] W).drew
 go_region_held3 (fun w'=>w'.cell? ⟨w.heap.size,0,none⟩=some (.int .u64 x1)∧w'.cell? ⟨w.heap.size,1,none⟩=some (.int .i64 x2)∧w'.cell? ⟨w.heap.size,2,none⟩=some (.pointer (some ⟨x3,0,none⟩))∧w'.cell? ⟨br,0,none⟩=some (.int .u64 y1)∧w'.cell? ⟨br,1,none⟩=some (.int .i64 y2)∧w'.cell? ⟨br,2,none⟩=some (.pointer (some ⟨y3,0,none⟩))∧w'.cell? ⟨br,3,none⟩=some (.bool true)∧w'.cell? ⟨br,4,none⟩=some (.pointer arl)∧w'.cell? ⟨br,5,none⟩=some (.pointer arr)∧Turned [] W w')
  (first|exact⟨f0,f1,f2,f3,f4,f5,f6,f7,f8,ft⟩ |exact⟨e0,e1,e2,e3,e4,e5,e6,e7,e8,et⟩)
  (first
    |(go_at_call 109
      first
       |(with_reducible refine (black_any (Kl.out.later (by first|exact ft|exact et)) (Krl.out.later (by first|exact ft|exact et)) (x1,x2,x3)).mono ?_
         rintro e wa ⟨zg1,rfl,yg1,tg1⟩
         have g1:=xhd yg1
         try have g2:=xhd (g2.out.later tg1)
         try have g3:=xhd (g3.out.later tg1)
         obtain⟨f0,f1,f2,f3,f4,f5,f6,f7,f8,ft⟩:=HS.out _ (Turned.join (by first|exact ft|exact et) tg1)
         obtain⟨vg1,rfl⟩:=yg1.shape
         clear yg1 tg1))
    |(go_at_call 96
      first
       |(with_reducible refine (asRoot_any (Krr.out.later (by first|exact ft|exact et))).mono ?_
         rintro e wa ⟨zg2,rfl,yg2,tg2⟩
         have g2:=xhd yg2
         try have g1:=xhd (g1.out.later tg2)
         try have g3:=xhd (g3.out.later tg2)
         obtain⟨f0,f1,f2,f3,f4,f5,f6,f7,f8,ft⟩:=HS.out _ (Turned.join (by first|exact ft|exact et) tg2)
         obtain⟨vg2,rfl⟩:=yg2.shape
         clear yg2 tg2))
    |(go_at_call 104
      first
       |(with_reducible refine (red_any (g1.out) (g2.out) (y1,y2,y3)).mono ?_
         rintro e wa ⟨zg3,rfl,yg3,tg3⟩
         have g3:=xhd yg3
         obtain⟨f0,f1,f2,f3,f4,f5,f6,f7,f8,ft⟩:=HS.out _ (Turned.join (by first|exact ft|exact et) tg3)
         have G:=xhd (And.intro yg3 (HT.out.join ft))
         obtain⟨vg3,rfl⟩:=yg3.shape
         clear yg3 tg3)))
 all_goals
  go_wp2
  go_ret
  exact⟨_,rfl,G.out⟩
theorem balE_any {w:World} {l:Tr Nat} {ma:Tr Nat} {mb:Tr Nat} {rr:Tr Nat} {y:Itm Nat} {z:Itm Nat} {pl pr:Value} (hl:TrAt w l pl) (hr:TrAt w (.node true (.node true ma z mb) y rr) pr) (x:Itm Nat) (cl:l.isR=false) (crr:rr.isR=false):
  Calls Tryz.prog 113 #[pl,itV x,pr] w (Makes w (.node true (.node false l x ma) z (.node false mb y rr))):=by
 obtain⟨W,hW⟩:∃W,w.alloc (.cells #[.int .u64 x.1, .int .i64 x.2.1, .pointer (some ⟨x.2.2,0,none⟩)] tIt)=W:=⟨_,rfl⟩
 have TW:Turned [] w W:=hW ▸ (Turned.refl [] w).alloc _
 have BW:Bx W w.heap.size x:=hW ▸ bx_new w x
 have Rl:=xhd (isRed_is (hl.later TW) cl)
 have Kl:=xhd (hl.later TW)
 have Rr:=xhd (isRed_is (b:=true) (hr.later TW) rfl)
 have Kr:=xhd (hr.later TW)
 obtain⟨br,pm,prr,rfl,mr,hm,hrr⟩:=hr
 have Nr:=TW.same mr (by simp)
 have Rm:=xhd (isRed_is (b:=true) (hm.later TW) rfl)
 have Km:=xhd (hm.later TW)
 obtain⟨bm,pma,pmb,rfl,mm,hma,hmb⟩:=hm
 have Nm:=TW.same mm (by simp)
 have Kma:=xhd (hma.later TW)
 have Kmb:=xhd (hmb.later TW)
 have Rrr:=xhd (isRed_is (hrr.later TW) crr)
 have Krr:=xhd (hrr.later TW)
 obtain⟨al,rfl⟩:=hl.shape
 obtain⟨ama,rfl⟩:=hma.shape
 obtain⟨amb,rfl⟩:=hmb.shape
 obtain⟨arr,rfl⟩:=hrr.shape
 have HS:Hid (∀w',Turned [] W w'→w'.cell? ⟨w.heap.size,0,none⟩=some (.int .u64 x.1)∧w'.cell? ⟨w.heap.size,1,none⟩=some (.int .i64 x.2.1)∧w'.cell? ⟨w.heap.size,2,none⟩=some (.pointer (some ⟨x.2.2,0,none⟩))∧w'.cell? ⟨br,0,none⟩=some (.int .u64 y.1)∧w'.cell? ⟨br,1,none⟩=some (.int .i64 y.2.1)∧w'.cell? ⟨br,2,none⟩=some (.pointer (some ⟨y.2.2,0,none⟩))∧w'.cell? ⟨br,3,none⟩=some (.bool true)∧w'.cell? ⟨br,4,none⟩=some (.pointer (some ⟨bm,0,none⟩))∧w'.cell? ⟨br,5,none⟩=some (.pointer arr)∧w'.cell? ⟨bm,0,none⟩=some (.int .u64 z.1)∧w'.cell? ⟨bm,1,none⟩=some (.int .i64 z.2.1)∧w'.cell? ⟨bm,2,none⟩=some (.pointer (some ⟨z.2.2,0,none⟩))∧w'.cell? ⟨bm,3,none⟩=some (.bool true)∧w'.cell? ⟨bm,4,none⟩=some (.pointer ama)∧w'.cell? ⟨bm,5,none⟩=some (.pointer amb)∧Turned [] W w'):=by
  intro w' ht
  obtain⟨x0,x1,x2⟩:=bx_cells (ht.same BW (by simp))
  obtain⟨rq0,rq1,rq2,rq3,rq4,rq5⟩:=nd_cells (ht.same Nr (by simp))
  obtain⟨mq0,mq1,mq2,mq3,mq4,mq5⟩:=nd_cells (ht.same Nm (by simp))
  exact⟨x0,x1,x2,rq0,rq1,rq2,rq3,rq4,rq5,mq0,mq1,mq2,mq3,mq4,mq5,ht⟩
 have HT:=xhd TW
 obtain⟨x1,x2,x3⟩:=x
 obtain⟨y1,y2,y3⟩:=y
 obtain⟨z1,z2,z3⟩:=z
 simp only [itV] at hW HS ⊢
 clear TW BW mr mm Nr Nm hl hma hmb hrr cl crr
 obtain⟨d0,d1,d2,d3,d4,d5,d6,d7,d8,d9,d10,d11,d12,d13,d14,dt⟩:=HS.out _ (Turned.refl [] W)
 go_enter Tryz.func113,Tryz.ntmps113
 repeat (go_wp2_with fail;first|(with_reducible refine Rl.out.mono ?_;rintro e w1 ⟨rfl,rfl⟩) |(with_reducible refine Rr.out.mono ?_;rintro e w1 ⟨rfl,rfl⟩) |(with_reducible refine Rm.out.mono ?_;rintro e w1 ⟨rfl,rfl⟩) |(with_reducible refine Rrr.out.mono ?_;rintro e w1 ⟨rfl,rfl⟩))
 go_wp2_with fail
 obtain⟨e0,e1,e2,e3,e4,e5,e6,e7,e8,e9,e10,e11,e12,e13,e14,et⟩:=HS.out _ (Turned.refl [] W).drew
 go_region_held3 (fun w'=>w'.cell? ⟨w.heap.size,0,none⟩=some (.int .u64 x1)∧w'.cell? ⟨w.heap.size,1,none⟩=some (.int .i64 x2)∧w'.cell? ⟨w.heap.size,2,none⟩=some (.pointer (some ⟨x3,0,none⟩))∧w'.cell? ⟨br,0,none⟩=some (.int .u64 y1)∧w'.cell? ⟨br,1,none⟩=some (.int .i64 y2)∧w'.cell? ⟨br,2,none⟩=some (.pointer (some ⟨y3,0,none⟩))∧w'.cell? ⟨br,3,none⟩=some (.bool true)∧w'.cell? ⟨br,4,none⟩=some (.pointer (some ⟨bm,0,none⟩))∧w'.cell? ⟨br,5,none⟩=some (.pointer arr)∧w'.cell? ⟨bm,0,none⟩=some (.int .u64 z1)∧w'.cell? ⟨bm,1,none⟩=some (.int .i64 z2)∧w'.cell? ⟨bm,2,none⟩=some (.pointer (some ⟨z3,0,none⟩))∧w'.cell? ⟨bm,3,none⟩=some (.bool true)∧w'.cell? ⟨bm,4,none⟩=some (.pointer ama)∧w'.cell? ⟨bm,5,none⟩=some (.pointer amb)∧Turned [] W w')
  (first|exact⟨f0,f1,f2,f3,f4,f5,f6,f7,f8,f9,f10,f11,f12,f13,f14,ft⟩ |exact⟨e0,e1,e2,e3,e4,e5,e6,e7,e8,e9,e10,e11,e12,e13,e14,et⟩)
  (first
    |(go_at_call 109
      first
       |(with_reducible refine (black_any (Kl.out.later (by first|exact ft|exact et)) (Kma.out.later (by first|exact ft|exact et)) (x1,x2,x3)).mono ?_
         rintro e wa ⟨zg1,rfl,yg1,tg1⟩
         have g1:=xhd yg1
         try have g2:=xhd (g2.out.later tg1)
         try have g3:=xhd (g3.out.later tg1)
         obtain⟨f0,f1,f2,f3,f4,f5,f6,f7,f8,f9,f10,f11,f12,f13,f14,ft⟩:=HS.out _ (Turned.join (by first|exact ft|exact et) tg1)
         obtain⟨vg1,rfl⟩:=yg1.shape
         clear yg1 tg1)
       |(with_reducible refine (black_any (Kmb.out.later (by first|exact ft|exact et)) (Krr.out.later (by first|exact ft|exact et)) (y1,y2,y3)).mono ?_
         rintro e wa ⟨zg2,rfl,yg2,tg2⟩
         have g2:=xhd yg2
         try have g1:=xhd (g1.out.later tg2)
         try have g3:=xhd (g3.out.later tg2)
         obtain⟨f0,f1,f2,f3,f4,f5,f6,f7,f8,f9,f10,f11,f12,f13,f14,ft⟩:=HS.out _ (Turned.join (by first|exact ft|exact et) tg2)
         obtain⟨vg2,rfl⟩:=yg2.shape
         clear yg2 tg2))
    |(go_at_call 104
      first
       |(with_reducible refine (red_any (g1.out) (g2.out) (z1,z2,z3)).mono ?_
         rintro e wa ⟨zg3,rfl,yg3,tg3⟩
         have g3:=xhd yg3
         obtain⟨f0,f1,f2,f3,f4,f5,f6,f7,f8,f9,f10,f11,f12,f13,f14,ft⟩:=HS.out _ (Turned.join (by first|exact ft|exact et) tg3)
         have G:=xhd (And.intro yg3 (HT.out.join ft))
         obtain⟨vg3,rfl⟩:=yg3.shape
         clear yg3 tg3)))
 all_goals
  go_wp2
  go_ret
  exact⟨_,rfl,G.out⟩
theorem balF_any {w:World} {ll:Tr Nat} {lr:Tr Nat} {r:Tr Nat} {y:Itm Nat} {pl pr:Value} (hl:TrAt w (.node true ll y lr) pl) (hr:TrAt w r pr) (x:Itm Nat) (cll:ll.isR=false) (clr:lr.isR=false) (cr:r.isR=false):
  Calls Tryz.prog 113 #[pl,itV x,pr] w (Makes w (.node false (.node true ll y lr) x r)):=by
 obtain⟨W,hW⟩:∃W,w.alloc (.cells #[.int .u64 x.1, .int .i64 x.2.1, .pointer (some ⟨x.2.2,0,none⟩)] tIt)=W:=⟨_,rfl⟩
 have TW:Turned [] w W:=hW ▸ (Turned.refl [] w).alloc _
 have BW:Bx W w.heap.size x:=hW ▸ bx_new w x
 have Rl:=xhd (isRed_is (b:=true) (hl.later TW) rfl)
 have Kl:=xhd (hl.later TW)
 obtain⟨bl,pll,plr,rfl,ml,hll,hlr⟩:=hl
 have Nl:=TW.same ml (by simp)
 have Rll:=xhd (isRed_is (hll.later TW) cll)
 have Kll:=xhd (hll.later TW)
 have Rlr:=xhd (isRed_is (hlr.later TW) clr)
 have Klr:=xhd (hlr.later TW)
 have Rr:=xhd (isRed_is (hr.later TW) cr)
 have Kr:=xhd (hr.later TW)
 obtain⟨all,rfl⟩:=hll.shape
 obtain⟨alr,rfl⟩:=hlr.shape
 obtain⟨ar,rfl⟩:=hr.shape
 have HS:Hid (∀w',Turned [] W w'→w'.cell? ⟨w.heap.size,0,none⟩=some (.int .u64 x.1)∧w'.cell? ⟨w.heap.size,1,none⟩=some (.int .i64 x.2.1)∧w'.cell? ⟨w.heap.size,2,none⟩=some (.pointer (some ⟨x.2.2,0,none⟩))∧w'.cell? ⟨bl,0,none⟩=some (.int .u64 y.1)∧w'.cell? ⟨bl,1,none⟩=some (.int .i64 y.2.1)∧w'.cell? ⟨bl,2,none⟩=some (.pointer (some ⟨y.2.2,0,none⟩))∧w'.cell? ⟨bl,3,none⟩=some (.bool true)∧w'.cell? ⟨bl,4,none⟩=some (.pointer all)∧w'.cell? ⟨bl,5,none⟩=some (.pointer alr)∧Turned [] W w'):=by
  intro w' ht
  obtain⟨x0,x1,x2⟩:=bx_cells (ht.same BW (by simp))
  obtain⟨lq0,lq1,lq2,lq3,lq4,lq5⟩:=nd_cells (ht.same Nl (by simp))
  exact⟨x0,x1,x2,lq0,lq1,lq2,lq3,lq4,lq5,ht⟩
 have HT:=xhd TW
 obtain⟨x1,x2,x3⟩:=x
 obtain⟨y1,y2,y3⟩:=y
 simp only [itV] at hW HS ⊢
 clear TW BW ml Nl hll hlr hr cll clr cr
 obtain⟨d0,d1,d2,d3,d4,d5,d6,d7,d8,dt⟩:=HS.out _ (Turned.refl [] W)
 go_enter Tryz.func113,Tryz.ntmps113
 repeat (go_wp2_with fail;first|(with_reducible refine Rl.out.mono ?_;rintro e w1 ⟨rfl,rfl⟩) |(with_reducible refine Rll.out.mono ?_;rintro e w1 ⟨rfl,rfl⟩) |(with_reducible refine Rlr.out.mono ?_;rintro e w1 ⟨rfl,rfl⟩) |(with_reducible refine Rr.out.mono ?_;rintro e w1 ⟨rfl,rfl⟩))
 go_wp2_with fail
 with_reducible refine (black_any (Kl.out.later dt) (Kr.out.later dt) (x1,x2,x3)).mono ?_
 rintro e wa ⟨q,rfl,hq,tq⟩
 have G:=xhd (And.intro hq (HT.out.join tq))
 obtain⟨aq,rfl⟩:=hq.shape
 clear hq tq
 go_wp2
 go_ret
 exact⟨_,rfl,G.out⟩
theorem balG_any {w:World} {l:Tr Nat} {r:Tr Nat} {pl pr:Value} (hl:TrAt w l pl) (hr:TrAt w r pr) (x:Itm Nat) (cl:l.isR=false) (cr:r.isR=false):
  Calls Tryz.prog 113 #[pl,itV x,pr] w (Makes w (.node false l x r)):=by
 obtain⟨W,hW⟩:∃W,w.alloc (.cells #[.int .u64 x.1, .int .i64 x.2.1, .pointer (some ⟨x.2.2,0,none⟩)] tIt)=W:=⟨_,rfl⟩
 have TW:Turned [] w W:=hW ▸ (Turned.refl [] w).alloc _
 have BW:Bx W w.heap.size x:=hW ▸ bx_new w x
 have Rl:=xhd (isRed_is (hl.later TW) cl)
 have Kl:=xhd (hl.later TW)
 have Rr:=xhd (isRed_is (hr.later TW) cr)
 have Kr:=xhd (hr.later TW)
 obtain⟨al,rfl⟩:=hl.shape
 obtain⟨ar,rfl⟩:=hr.shape
 have HS:Hid (∀w',Turned [] W w'→w'.cell? ⟨w.heap.size,0,none⟩=some (.int .u64 x.1)∧w'.cell? ⟨w.heap.size,1,none⟩=some (.int .i64 x.2.1)∧w'.cell? ⟨w.heap.size,2,none⟩=some (.pointer (some ⟨x.2.2,0,none⟩))∧Turned [] W w'):=by
  intro w' ht
  obtain⟨x0,x1,x2⟩:=bx_cells (ht.same BW (by simp))
  exact⟨x0,x1,x2,ht⟩
 have HT:=xhd TW
 obtain⟨x1,x2,x3⟩:=x
 simp only [itV] at hW HS ⊢
 clear TW BW hl hr cl cr
 obtain⟨d0,d1,d2,dt⟩:=HS.out _ (Turned.refl [] W)
 go_enter Tryz.func113,Tryz.ntmps113
 repeat (go_wp2_with fail;first|(with_reducible refine Rl.out.mono ?_;rintro e w1 ⟨rfl,rfl⟩) |(with_reducible refine Rr.out.mono ?_;rintro e w1 ⟨rfl,rfl⟩))
 go_wp2_with fail
 with_reducible refine (black_any (Kl.out.later dt) (Kr.out.later dt) (x1,x2,x3)).mono ?_
 rintro e wa ⟨q,rfl,hq,tq⟩
 have G:=xhd (And.intro hq (HT.out.join tq))
 obtain⟨aq,rfl⟩:=hq.shape
 clear hq tq
 go_wp2
 go_ret
 exact⟨_,rfl,G.out⟩
theorem balH_any {w:World} {l:Tr Nat} {rl:Tr Nat} {rr:Tr Nat} {y:Itm Nat} {pl pr:Value} (hl:TrAt w l pl) (hr:TrAt w (.node true rl y rr) pr) (x:Itm Nat) (cl:l.isR=false) (crl:rl.isR=false) (crr:rr.isR=false):
  Calls Tryz.prog 113 #[pl,itV x,pr] w (Makes w (.node false l x (.node true rl y rr))):=by
 obtain⟨W,hW⟩:∃W,w.alloc (.cells #[.int .u64 x.1, .int .i64 x.2.1, .pointer (some ⟨x.2.2,0,none⟩)] tIt)=W:=⟨_,rfl⟩
 have TW:Turned [] w W:=hW ▸ (Turned.refl [] w).alloc _
 have BW:Bx W w.heap.size x:=hW ▸ bx_new w x
 have Rl:=xhd (isRed_is (hl.later TW) cl)
 have Kl:=xhd (hl.later TW)
 have Rr:=xhd (isRed_is (b:=true) (hr.later TW) rfl)
 have Kr:=xhd (hr.later TW)
 obtain⟨br,prl,prr,rfl,mr,hrl,hrr⟩:=hr
 have Nr:=TW.same mr (by simp)
 have Rrl:=xhd (isRed_is (hrl.later TW) crl)
 have Krl:=xhd (hrl.later TW)
 have Rrr:=xhd (isRed_is (hrr.later TW) crr)
 have Krr:=xhd (hrr.later TW)
 obtain⟨al,rfl⟩:=hl.shape
 obtain⟨arl,rfl⟩:=hrl.shape
 obtain⟨arr,rfl⟩:=hrr.shape
 have HS:Hid (∀w',Turned [] W w'→w'.cell? ⟨w.heap.size,0,none⟩=some (.int .u64 x.1)∧w'.cell? ⟨w.heap.size,1,none⟩=some (.int .i64 x.2.1)∧w'.cell? ⟨w.heap.size,2,none⟩=some (.pointer (some ⟨x.2.2,0,none⟩))∧w'.cell? ⟨br,0,none⟩=some (.int .u64 y.1)∧w'.cell? ⟨br,1,none⟩=some (.int .i64 y.2.1)∧w'.cell? ⟨br,2,none⟩=some (.pointer (some ⟨y.2.2,0,none⟩))∧w'.cell? ⟨br,3,none⟩=some (.bool true)∧w'.cell? ⟨br,4,none⟩=some (.pointer arl)∧w'.cell? ⟨br,5,none⟩=some (.pointer arr)∧Turned [] W w'):=by
  intro w' ht
  obtain⟨x0,x1,x2⟩:=bx_cells (ht.same BW (by simp))
  obtain⟨rq0,rq1,rq2,rq3,rq4,rq5⟩:=nd_cells (ht.same Nr (by simp))
  exact⟨x0,x1,x2,rq0,rq1,rq2,rq3,rq4,rq5,ht⟩
 have HT:=xhd TW
 obtain⟨x1,x2,x3⟩:=x
 obtain⟨y1,y2,y3⟩:=y
 simp only [itV] at hW HS ⊢
 clear TW BW mr Nr hl hrl hrr cl crl crr
 obtain⟨d0,d1,d2,d3,d4,d5,d6,d7,d8,dt⟩:=HS.out _ (Turned.refl [] W)
 go_enter Tryz.func113,Tryz.ntmps113
 repeat (go_wp2_with fail;first|(with_reducible refine Rl.out.mono ?_;rintro e w1 ⟨rfl,rfl⟩) |(with_reducible refine Rr.out.mono ?_;rintro e w1 ⟨rfl,rfl⟩) |(with_reducible refine Rrl.out.mono ?_;rintro e w1 ⟨rfl,rfl⟩) |(with_reducible refine Rrr.out.mono ?_;rintro e w1 ⟨rfl,rfl⟩))
 go_wp2_with fail
 with_reducible refine (black_any (Kl.out.later dt) (Kr.out.later dt) (x1,x2,x3)).mono ?_
 rintro e wa ⟨q,rfl,hq,tq⟩
 have G:=xhd (And.intro hq (HT.out.join tq))
 obtain⟨aq,rfl⟩:=hq.shape
 clear hq tq
 go_wp2
 go_ret
 exact⟨_,rfl,G.out⟩
end Go.Proofs.YtfmciiffcmfagaaGreat
