/-
  without (made by gen_rb2.py).
  find.
-/
import Derived.Test.YtfmciiffcmfagaaGreatZAP
import Derived.Deep.LoopGhost
import Derived.Test.YtfmciiffcmfagaaGreatZAl
set_option maxRecDepth 100000
set_option maxHeartbeats 25600000
namespace Go.Proofs.YtfmciiffcmfagaaGreat
open Go.RowKit
theorem woA_any {w:World} {r sl sr:Tr Nat} {x sx:Itm Nat} {c:Bool} {p:Value} {k1 k2:Int} (h:TrAt w (.node c (.node true sl sx sr) x r) p) (ho:ordI (k1,k2) (ky x) < 0)
  (IH:∀(W':World) (q:Value),TrAt W' (.node true sl sx sr) q→Calls Tryz.prog 95 #[q, .agg #[.int .u64 k1, .int .i64 k2]] W' (Makes W' (Tr.del (k1,k2) (.node true sl sx sr)))):Calls Tryz.prog 95 #[p, .agg #[.int .u64 k1, .int .i64 k2]] w (Makes w (.node true (Tr.del (k1,k2) (.node true sl sx sr)) x r)):=by
 obtain⟨W,hW⟩:∃W,w.alloc (.cells #[.int .u64 k1, .int .i64 k2] 84)=W:=⟨_,rfl⟩
 have TW:Turned [] w W:=hW ▸ (Turned.refl [] w).alloc _
 have BW:W.heap[w.heap.size]?=some (.cells #[.int .u64 k1, .int .i64 k2] 84 (0,0)):=hW ▸ heap_alloc_new w _
 obtain⟨b,pl,pr,rfl,m,hl,hr⟩:=h
 have NW:=TW.same m (by simp)
 have Kl:=xhd (hl.later TW)
 have Kr:=xhd (hr.later TW)
 obtain⟨bs,psl,psr,rfl,ms,hsl,hsr⟩:=hl
 have MW:=TW.same ms (by simp)
 obtain⟨ar,rfl⟩:=hr.shape
 have HI:=xhd IH
 have HT:=xhd TW
 obtain⟨D,hD⟩:∃D,W.drew=D:=⟨_,rfl⟩
 have TD:Turned [] W D:=hD ▸ (Turned.refl [] W).drew
 obtain⟨o,hoo⟩:∃o,ordI (k1,k2) (ky x)=o:=⟨_,rfl⟩
 have HO:=xhd (kord_any (k1,k2) (ky x) D)
 rw [hoo] at HO ho
 have o1:decide (o < 0)=true:=by simpa using ho
 have o2:decide (0 < o)=false:=by simp;omega
 obtain⟨x1,x2,x3⟩:=x
 have HA:Hid (∀w',Turned [] W w'→w'.cell? ⟨b,0,none⟩=some (.int .u64 x1)∧w'.cell? ⟨b,1,none⟩=some (.int .i64 x2)∧w'.cell? ⟨b,2,none⟩=some (.pointer (some ⟨x3,0,none⟩))∧w'.cell? ⟨b,3,none⟩=some (.bool c)∧w'.cell? ⟨b,4,none⟩=some (.pointer (some ⟨bs,0,none⟩))∧w'.cell? ⟨b,5,none⟩=some (.pointer ar)∧w'.cell? ⟨w.heap.size,0,none⟩=some (.int .u64 k1)∧w'.cell? ⟨w.heap.size,1,none⟩=some (.int .i64 k2)∧w'.cell? ⟨bs,3,none⟩=some (.bool true)∧Turned [] W w'):=by
  intro w' ht
  obtain⟨p0,p1,p2,p3,p4,p5⟩:=nd_cells (ht.same NW (by simp))
  obtain⟨_,_,_,q3,_,_⟩:=nd_cells (ht.same MW (by simp))
  have kb:=ht.same BW (by simp)
  exact⟨p0,p1,p2,p3,p4,p5,by simp [World.cell?,kb],by simp [World.cell?,kb],q3,ht⟩
 simp only at HO ⊢
 obtain⟨d0,d1,d2,d3,d4,d5,d6,d7,d8,dt⟩:=HA.out D TD
 have HD:=xhd TD
 clear hoo TW BW NW MW m ms hr hsl hsr IH ho TD
 go_enter Tryz.func95,Tryz.ntmps95
 go_wp2_with fail
 refine wp_still_tail_at 6 hD (by kernel_rfl) (by kernel_rfl) ?_
 clear hD
 simp only [List.take_succ_cons,List.take_zero,List.drop_succ_cons,List.drop_zero]
 repeat still_step
 refine wpStill_nil ?_
 go_wp2_with fail
 with_reducible refine HO.out.mono ?_
 rintro e V ⟨rfl,t2⟩
 have T2:=HD.out.join t2
 have HS:Hid (∀w',Turned [] V w'→w'.cell? ⟨b,0,none⟩=some (.int .u64 x1)∧w'.cell? ⟨b,1,none⟩=some (.int .i64 x2)∧w'.cell? ⟨b,2,none⟩=some (.pointer (some ⟨x3,0,none⟩))∧w'.cell? ⟨b,3,none⟩=some (.bool c)∧w'.cell? ⟨b,4,none⟩=some (.pointer (some ⟨bs,0,none⟩))∧w'.cell? ⟨b,5,none⟩=some (.pointer ar)∧w'.cell? ⟨w.heap.size,0,none⟩=some (.int .u64 k1)∧w'.cell? ⟨w.heap.size,1,none⟩=some (.int .i64 k2)∧w'.cell? ⟨bs,3,none⟩=some (.bool true)∧Turned [] V w'):=by
  intro w' ht
  obtain⟨d0,d1,d2,d3,d4,d5,d6,d7,d8,_⟩:=HA.out w' (T2.join ht)
  exact⟨d0,d1,d2,d3,d4,d5,d6,d7,d8,ht⟩
 have Jc:=xhd (Kl.out.later T2)
 have Jo:=xhd (Kr.out.later T2)
 have HW:=xhd (HT.out.join T2)
 obtain⟨d0,d1,d2,d3,d4,d5,d6,d7,d8,_⟩:=HS.out V (Turned.refl [] V)
 clear t2 T2 dt HA
 go_wp2_with fail
 obtain⟨e0,e1,e2,e3,e4,e5,e6,e7,e8,et⟩:=HS.out _ (Turned.refl [] V).drew
 go_region_held3 (fun w'=>w'.cell? ⟨b,0,none⟩=some (.int .u64 x1)∧w'.cell? ⟨b,1,none⟩=some (.int .i64 x2)∧w'.cell? ⟨b,2,none⟩=some (.pointer (some ⟨x3,0,none⟩))∧w'.cell? ⟨b,3,none⟩=some (.bool c)∧w'.cell? ⟨b,4,none⟩=some (.pointer (some ⟨bs,0,none⟩))∧w'.cell? ⟨b,5,none⟩=some (.pointer ar)∧w'.cell? ⟨w.heap.size,0,none⟩=some (.int .u64 k1)∧w'.cell? ⟨w.heap.size,1,none⟩=some (.int .i64 k2)∧w'.cell? ⟨bs,3,none⟩=some (.bool true)∧Turned [] V w')
  (first|exact⟨f0,f1,f2,f3,f4,f5,f6,f7,f8,ft⟩ |exact⟨e0,e1,e2,e3,e4,e5,e6,e7,e8,et⟩)
  (first
    |(go_at_call 95
      first
       |(with_reducible refine (HI.out _ _ (Jc.out.later (by first|exact ft|exact et))).mono ?_
         rintro e wa ⟨zg1q,rfl,yg1q,tg1q⟩
         have g1q:=xhd yg1q
         try have g2q:=xhd (g2q.out.later tg1q)
         obtain⟨f0,f1,f2,f3,f4,f5,f6,f7,f8,ft⟩:=HS.out _ (Turned.join (by first|exact ft|exact et) tg1q)
         obtain⟨vg1q,rfl⟩:=yg1q.shape
         clear yg1q tg1q))
    |(go_at_call 104
      first
       |(with_reducible refine (red_any g1q.out (Jo.out.later (by first|exact ft|exact et)) (x1,x2,x3)).mono ?_
         rintro e wa ⟨zg2q,rfl,yg2q,tg2q⟩
         have g2q:=xhd yg2q
         obtain⟨f0,f1,f2,f3,f4,f5,f6,f7,f8,ft⟩:=HS.out _ (Turned.join (by first|exact ft|exact et) tg2q)
         have G:=xhd (And.intro yg2q (HW.out.join ft))
         obtain⟨vg2q,rfl⟩:=yg2q.shape
         clear yg2q tg2q)))
 all_goals
  go_wp2
  go_ret
  exact⟨_,rfl,G.out⟩
theorem woB_any {w:World} {r sl sr:Tr Nat} {x sx:Itm Nat} {c:Bool} {p:Value} {k1 k2:Int} (h:TrAt w (.node c (.node false sl sx sr) x r) p) (ho:ordI (k1,k2) (ky x) < 0) (g1:r.HH) (g2:(Tr.del (k1,k2) (.node false sl sx sr)).bh+1=r.bh) (g3:r.CC)
  (IH:∀(W':World) (q:Value),TrAt W' (.node false sl sx sr) q→Calls Tryz.prog 95 #[q, .agg #[.int .u64 k1, .int .i64 k2]] W' (Makes W' (Tr.del (k1,k2) (.node false sl sx sr)))):Calls Tryz.prog 95 #[p, .agg #[.int .u64 k1, .int .i64 k2]] w (Makes w (Tr.lsh (Tr.del (k1,k2) (.node false sl sx sr)) x r)):=by
 obtain⟨W,hW⟩:∃W,w.alloc (.cells #[.int .u64 k1, .int .i64 k2] 84)=W:=⟨_,rfl⟩
 have TW:Turned [] w W:=hW ▸ (Turned.refl [] w).alloc _
 have BW:W.heap[w.heap.size]?=some (.cells #[.int .u64 k1, .int .i64 k2] 84 (0,0)):=hW ▸ heap_alloc_new w _
 obtain⟨b,pl,pr,rfl,m,hl,hr⟩:=h
 have NW:=TW.same m (by simp)
 have Kl:=xhd (hl.later TW)
 have Kr:=xhd (hr.later TW)
 obtain⟨bs,psl,psr,rfl,ms,hsl,hsr⟩:=hl
 have MW:=TW.same ms (by simp)
 obtain⟨ar,rfl⟩:=hr.shape
 have HI:=xhd IH
 have HT:=xhd TW
 obtain⟨D,hD⟩:∃D,W.drew=D:=⟨_,rfl⟩
 have TD:Turned [] W D:=hD ▸ (Turned.refl [] W).drew
 obtain⟨o,hoo⟩:∃o,ordI (k1,k2) (ky x)=o:=⟨_,rfl⟩
 have HO:=xhd (kord_any (k1,k2) (ky x) D)
 rw [hoo] at HO ho
 have o1:decide (o < 0)=true:=by simpa using ho
 have o2:decide (0 < o)=false:=by simp;omega
 obtain⟨x1,x2,x3⟩:=x
 have HA:Hid (∀w',Turned [] W w'→w'.cell? ⟨b,0,none⟩=some (.int .u64 x1)∧w'.cell? ⟨b,1,none⟩=some (.int .i64 x2)∧w'.cell? ⟨b,2,none⟩=some (.pointer (some ⟨x3,0,none⟩))∧w'.cell? ⟨b,3,none⟩=some (.bool c)∧w'.cell? ⟨b,4,none⟩=some (.pointer (some ⟨bs,0,none⟩))∧w'.cell? ⟨b,5,none⟩=some (.pointer ar)∧w'.cell? ⟨w.heap.size,0,none⟩=some (.int .u64 k1)∧w'.cell? ⟨w.heap.size,1,none⟩=some (.int .i64 k2)∧w'.cell? ⟨bs,3,none⟩=some (.bool false)∧Turned [] W w'):=by
  intro w' ht
  obtain⟨p0,p1,p2,p3,p4,p5⟩:=nd_cells (ht.same NW (by simp))
  obtain⟨_,_,_,q3,_,_⟩:=nd_cells (ht.same MW (by simp))
  have kb:=ht.same BW (by simp)
  exact⟨p0,p1,p2,p3,p4,p5,by simp [World.cell?,kb],by simp [World.cell?,kb],q3,ht⟩
 simp only at HO ⊢
 obtain⟨d0,d1,d2,d3,d4,d5,d6,d7,d8,dt⟩:=HA.out D TD
 have HD:=xhd TD
 clear hoo TW BW NW MW m ms hr hsl hsr IH ho TD
 go_enter Tryz.func95,Tryz.ntmps95
 go_wp2_with fail
 refine wp_still_tail_at 6 hD (by kernel_rfl) (by kernel_rfl) ?_
 clear hD
 simp only [List.take_succ_cons,List.take_zero,List.drop_succ_cons,List.drop_zero]
 repeat still_step
 refine wpStill_nil ?_
 go_wp2_with fail
 with_reducible refine HO.out.mono ?_
 rintro e V ⟨rfl,t2⟩
 have T2:=HD.out.join t2
 have HS:Hid (∀w',Turned [] V w'→w'.cell? ⟨b,0,none⟩=some (.int .u64 x1)∧w'.cell? ⟨b,1,none⟩=some (.int .i64 x2)∧w'.cell? ⟨b,2,none⟩=some (.pointer (some ⟨x3,0,none⟩))∧w'.cell? ⟨b,3,none⟩=some (.bool c)∧w'.cell? ⟨b,4,none⟩=some (.pointer (some ⟨bs,0,none⟩))∧w'.cell? ⟨b,5,none⟩=some (.pointer ar)∧w'.cell? ⟨w.heap.size,0,none⟩=some (.int .u64 k1)∧w'.cell? ⟨w.heap.size,1,none⟩=some (.int .i64 k2)∧w'.cell? ⟨bs,3,none⟩=some (.bool false)∧Turned [] V w'):=by
  intro w' ht
  obtain⟨d0,d1,d2,d3,d4,d5,d6,d7,d8,_⟩:=HA.out w' (T2.join ht)
  exact⟨d0,d1,d2,d3,d4,d5,d6,d7,d8,ht⟩
 have Jc:=xhd (Kl.out.later T2)
 have Jo:=xhd (Kr.out.later T2)
 have HW:=xhd (HT.out.join T2)
 obtain⟨d0,d1,d2,d3,d4,d5,d6,d7,d8,_⟩:=HS.out V (Turned.refl [] V)
 clear t2 T2 dt HA
 go_wp2_with fail
 obtain⟨e0,e1,e2,e3,e4,e5,e6,e7,e8,et⟩:=HS.out _ (Turned.refl [] V).drew
 go_region_held3 (fun w'=>w'.cell? ⟨b,0,none⟩=some (.int .u64 x1)∧w'.cell? ⟨b,1,none⟩=some (.int .i64 x2)∧w'.cell? ⟨b,2,none⟩=some (.pointer (some ⟨x3,0,none⟩))∧w'.cell? ⟨b,3,none⟩=some (.bool c)∧w'.cell? ⟨b,4,none⟩=some (.pointer (some ⟨bs,0,none⟩))∧w'.cell? ⟨b,5,none⟩=some (.pointer ar)∧w'.cell? ⟨w.heap.size,0,none⟩=some (.int .u64 k1)∧w'.cell? ⟨w.heap.size,1,none⟩=some (.int .i64 k2)∧w'.cell? ⟨bs,3,none⟩=some (.bool false)∧Turned [] V w')
  (first|exact⟨f0,f1,f2,f3,f4,f5,f6,f7,f8,ft⟩ |exact⟨e0,e1,e2,e3,e4,e5,e6,e7,e8,et⟩)
  (first
    |(go_at_call 95
      first
       |(with_reducible refine (HI.out _ _ (Jc.out.later (by first|exact ft|exact et))).mono ?_
         rintro e wa ⟨zg1q,rfl,yg1q,tg1q⟩
         have g1q:=xhd yg1q
         try have g2q:=xhd (g2q.out.later tg1q)
         obtain⟨f0,f1,f2,f3,f4,f5,f6,f7,f8,ft⟩:=HS.out _ (Turned.join (by first|exact ft|exact et) tg1q)
         obtain⟨vg1q,rfl⟩:=yg1q.shape
         clear yg1q tg1q))
    |(go_at_call 105
      first
       |(with_reducible refine (lsh_any g1q.out (Jo.out.later (by first|exact ft|exact et)) (x1,x2,x3) g1 g2 g3).mono ?_
         rintro e wa ⟨zg2q,rfl,yg2q,tg2q⟩
         have g2q:=xhd yg2q
         obtain⟨f0,f1,f2,f3,f4,f5,f6,f7,f8,ft⟩:=HS.out _ (Turned.join (by first|exact ft|exact et) tg2q)
         have G:=xhd (And.intro yg2q (HW.out.join ft))
         obtain⟨vg2q,rfl⟩:=yg2q.shape
         clear yg2q tg2q)))
 all_goals
  go_wp2
  go_ret
  exact⟨_,rfl,G.out⟩
theorem woC_any {w:World} {l sl sr:Tr Nat} {x sx:Itm Nat} {c:Bool} {p:Value} {k1 k2:Int} (h:TrAt w (.node c l x (.node true sl sx sr)) p) (ho:0 < ordI (k1,k2) (ky x))
  (IH:∀(W':World) (q:Value),TrAt W' (.node true sl sx sr) q→Calls Tryz.prog 95 #[q, .agg #[.int .u64 k1, .int .i64 k2]] W' (Makes W' (Tr.del (k1,k2) (.node true sl sx sr)))):Calls Tryz.prog 95 #[p, .agg #[.int .u64 k1, .int .i64 k2]] w (Makes w (.node true l x (Tr.del (k1,k2) (.node true sl sx sr)))):=by
 obtain⟨W,hW⟩:∃W,w.alloc (.cells #[.int .u64 k1, .int .i64 k2] 84)=W:=⟨_,rfl⟩
 have TW:Turned [] w W:=hW ▸ (Turned.refl [] w).alloc _
 have BW:W.heap[w.heap.size]?=some (.cells #[.int .u64 k1, .int .i64 k2] 84 (0,0)):=hW ▸ heap_alloc_new w _
 obtain⟨b,pl,pr,rfl,m,hl,hr⟩:=h
 have NW:=TW.same m (by simp)
 have Kr:=xhd (hr.later TW)
 have Kl:=xhd (hl.later TW)
 obtain⟨bs,psl,psr,rfl,ms,hsl,hsr⟩:=hr
 have MW:=TW.same ms (by simp)
 obtain⟨al,rfl⟩:=hl.shape
 have HI:=xhd IH
 have HT:=xhd TW
 obtain⟨D,hD⟩:∃D,W.drew=D:=⟨_,rfl⟩
 have TD:Turned [] W D:=hD ▸ (Turned.refl [] W).drew
 obtain⟨o,hoo⟩:∃o,ordI (k1,k2) (ky x)=o:=⟨_,rfl⟩
 have HO:=xhd (kord_any (k1,k2) (ky x) D)
 rw [hoo] at HO ho
 have o1:decide (o < 0)=false:=by simp;omega
 have o2:decide (0 < o)=true:=by simpa using ho
 obtain⟨x1,x2,x3⟩:=x
 have HA:Hid (∀w',Turned [] W w'→w'.cell? ⟨b,0,none⟩=some (.int .u64 x1)∧w'.cell? ⟨b,1,none⟩=some (.int .i64 x2)∧w'.cell? ⟨b,2,none⟩=some (.pointer (some ⟨x3,0,none⟩))∧w'.cell? ⟨b,3,none⟩=some (.bool c)∧w'.cell? ⟨b,4,none⟩=some (.pointer al)∧w'.cell? ⟨b,5,none⟩=some (.pointer (some ⟨bs,0,none⟩))∧w'.cell? ⟨w.heap.size,0,none⟩=some (.int .u64 k1)∧w'.cell? ⟨w.heap.size,1,none⟩=some (.int .i64 k2)∧w'.cell? ⟨bs,3,none⟩=some (.bool true)∧Turned [] W w'):=by
  intro w' ht
  obtain⟨p0,p1,p2,p3,p4,p5⟩:=nd_cells (ht.same NW (by simp))
  obtain⟨_,_,_,q3,_,_⟩:=nd_cells (ht.same MW (by simp))
  have kb:=ht.same BW (by simp)
  exact⟨p0,p1,p2,p3,p4,p5,by simp [World.cell?,kb],by simp [World.cell?,kb],q3,ht⟩
 simp only at HO ⊢
 obtain⟨d0,d1,d2,d3,d4,d5,d6,d7,d8,dt⟩:=HA.out D TD
 have HD:=xhd TD
 clear hoo TW BW NW MW m ms hl hsl hsr IH ho TD
 go_enter Tryz.func95,Tryz.ntmps95
 go_wp2_with fail
 refine wp_still_tail_at 6 hD (by kernel_rfl) (by kernel_rfl) ?_
 clear hD
 simp only [List.take_succ_cons,List.take_zero,List.drop_succ_cons,List.drop_zero]
 repeat still_step
 refine wpStill_nil ?_
 go_wp2_with fail
 with_reducible refine HO.out.mono ?_
 rintro e V ⟨rfl,t2⟩
 have T2:=HD.out.join t2
 have HS:Hid (∀w',Turned [] V w'→w'.cell? ⟨b,0,none⟩=some (.int .u64 x1)∧w'.cell? ⟨b,1,none⟩=some (.int .i64 x2)∧w'.cell? ⟨b,2,none⟩=some (.pointer (some ⟨x3,0,none⟩))∧w'.cell? ⟨b,3,none⟩=some (.bool c)∧w'.cell? ⟨b,4,none⟩=some (.pointer al)∧w'.cell? ⟨b,5,none⟩=some (.pointer (some ⟨bs,0,none⟩))∧w'.cell? ⟨w.heap.size,0,none⟩=some (.int .u64 k1)∧w'.cell? ⟨w.heap.size,1,none⟩=some (.int .i64 k2)∧w'.cell? ⟨bs,3,none⟩=some (.bool true)∧Turned [] V w'):=by
  intro w' ht
  obtain⟨d0,d1,d2,d3,d4,d5,d6,d7,d8,_⟩:=HA.out w' (T2.join ht)
  exact⟨d0,d1,d2,d3,d4,d5,d6,d7,d8,ht⟩
 have Jc:=xhd (Kr.out.later T2)
 have Jo:=xhd (Kl.out.later T2)
 have HW:=xhd (HT.out.join T2)
 obtain⟨d0,d1,d2,d3,d4,d5,d6,d7,d8,_⟩:=HS.out V (Turned.refl [] V)
 clear t2 T2 dt HA
 go_wp2_with fail
 obtain⟨e0,e1,e2,e3,e4,e5,e6,e7,e8,et⟩:=HS.out _ (Turned.refl [] V).drew
 go_region_held3 (fun w'=>w'.cell? ⟨b,0,none⟩=some (.int .u64 x1)∧w'.cell? ⟨b,1,none⟩=some (.int .i64 x2)∧w'.cell? ⟨b,2,none⟩=some (.pointer (some ⟨x3,0,none⟩))∧w'.cell? ⟨b,3,none⟩=some (.bool c)∧w'.cell? ⟨b,4,none⟩=some (.pointer al)∧w'.cell? ⟨b,5,none⟩=some (.pointer (some ⟨bs,0,none⟩))∧w'.cell? ⟨w.heap.size,0,none⟩=some (.int .u64 k1)∧w'.cell? ⟨w.heap.size,1,none⟩=some (.int .i64 k2)∧w'.cell? ⟨bs,3,none⟩=some (.bool true)∧Turned [] V w')
  (first|exact⟨f0,f1,f2,f3,f4,f5,f6,f7,f8,ft⟩ |exact⟨e0,e1,e2,e3,e4,e5,e6,e7,e8,et⟩)
  (first
    |(go_at_call 95
      first
       |(with_reducible refine (HI.out _ _ (Jc.out.later (by first|exact ft|exact et))).mono ?_
         rintro e wa ⟨zg1q,rfl,yg1q,tg1q⟩
         have g1q:=xhd yg1q
         try have g2q:=xhd (g2q.out.later tg1q)
         obtain⟨f0,f1,f2,f3,f4,f5,f6,f7,f8,ft⟩:=HS.out _ (Turned.join (by first|exact ft|exact et) tg1q)
         obtain⟨vg1q,rfl⟩:=yg1q.shape
         clear yg1q tg1q))
    |(go_at_call 104
      first
       |(with_reducible refine (red_any (Jo.out.later (by first|exact ft|exact et)) g1q.out (x1,x2,x3)).mono ?_
         rintro e wa ⟨zg2q,rfl,yg2q,tg2q⟩
         have g2q:=xhd yg2q
         obtain⟨f0,f1,f2,f3,f4,f5,f6,f7,f8,ft⟩:=HS.out _ (Turned.join (by first|exact ft|exact et) tg2q)
         have G:=xhd (And.intro yg2q (HW.out.join ft))
         obtain⟨vg2q,rfl⟩:=yg2q.shape
         clear yg2q tg2q)))
 all_goals
  go_wp2
  go_ret
  exact⟨_,rfl,G.out⟩
theorem woD_any {w:World} {l sl sr:Tr Nat} {x sx:Itm Nat} {c:Bool} {p:Value} {k1 k2:Int} (h:TrAt w (.node c l x (.node false sl sx sr)) p) (ho:0 < ordI (k1,k2) (ky x)) (g1:l.HH) (g2:(Tr.del (k1,k2) (.node false sl sx sr)).bh+1=l.bh) (g3:l.CC)
  (IH:∀(W':World) (q:Value),TrAt W' (.node false sl sx sr) q→Calls Tryz.prog 95 #[q, .agg #[.int .u64 k1, .int .i64 k2]] W' (Makes W' (Tr.del (k1,k2) (.node false sl sx sr)))):Calls Tryz.prog 95 #[p, .agg #[.int .u64 k1, .int .i64 k2]] w (Makes w (Tr.rsh l x (Tr.del (k1,k2) (.node false sl sx sr)))):=by
 obtain⟨W,hW⟩:∃W,w.alloc (.cells #[.int .u64 k1, .int .i64 k2] 84)=W:=⟨_,rfl⟩
 have TW:Turned [] w W:=hW ▸ (Turned.refl [] w).alloc _
 have BW:W.heap[w.heap.size]?=some (.cells #[.int .u64 k1, .int .i64 k2] 84 (0,0)):=hW ▸ heap_alloc_new w _
 obtain⟨b,pl,pr,rfl,m,hl,hr⟩:=h
 have NW:=TW.same m (by simp)
 have Kr:=xhd (hr.later TW)
 have Kl:=xhd (hl.later TW)
 obtain⟨bs,psl,psr,rfl,ms,hsl,hsr⟩:=hr
 have MW:=TW.same ms (by simp)
 obtain⟨al,rfl⟩:=hl.shape
 have HI:=xhd IH
 have HT:=xhd TW
 obtain⟨D,hD⟩:∃D,W.drew=D:=⟨_,rfl⟩
 have TD:Turned [] W D:=hD ▸ (Turned.refl [] W).drew
 obtain⟨o,hoo⟩:∃o,ordI (k1,k2) (ky x)=o:=⟨_,rfl⟩
 have HO:=xhd (kord_any (k1,k2) (ky x) D)
 rw [hoo] at HO ho
 have o1:decide (o < 0)=false:=by simp;omega
 have o2:decide (0 < o)=true:=by simpa using ho
 obtain⟨x1,x2,x3⟩:=x
 have HA:Hid (∀w',Turned [] W w'→w'.cell? ⟨b,0,none⟩=some (.int .u64 x1)∧w'.cell? ⟨b,1,none⟩=some (.int .i64 x2)∧w'.cell? ⟨b,2,none⟩=some (.pointer (some ⟨x3,0,none⟩))∧w'.cell? ⟨b,3,none⟩=some (.bool c)∧w'.cell? ⟨b,4,none⟩=some (.pointer al)∧w'.cell? ⟨b,5,none⟩=some (.pointer (some ⟨bs,0,none⟩))∧w'.cell? ⟨w.heap.size,0,none⟩=some (.int .u64 k1)∧w'.cell? ⟨w.heap.size,1,none⟩=some (.int .i64 k2)∧w'.cell? ⟨bs,3,none⟩=some (.bool false)∧Turned [] W w'):=by
  intro w' ht
  obtain⟨p0,p1,p2,p3,p4,p5⟩:=nd_cells (ht.same NW (by simp))
  obtain⟨_,_,_,q3,_,_⟩:=nd_cells (ht.same MW (by simp))
  have kb:=ht.same BW (by simp)
  exact⟨p0,p1,p2,p3,p4,p5,by simp [World.cell?,kb],by simp [World.cell?,kb],q3,ht⟩
 simp only at HO ⊢
 obtain⟨d0,d1,d2,d3,d4,d5,d6,d7,d8,dt⟩:=HA.out D TD
 have HD:=xhd TD
 clear hoo TW BW NW MW m ms hl hsl hsr IH ho TD
 go_enter Tryz.func95,Tryz.ntmps95
 go_wp2_with fail
 refine wp_still_tail_at 6 hD (by kernel_rfl) (by kernel_rfl) ?_
 clear hD
 simp only [List.take_succ_cons,List.take_zero,List.drop_succ_cons,List.drop_zero]
 repeat still_step
 refine wpStill_nil ?_
 go_wp2_with fail
 with_reducible refine HO.out.mono ?_
 rintro e V ⟨rfl,t2⟩
 have T2:=HD.out.join t2
 have HS:Hid (∀w',Turned [] V w'→w'.cell? ⟨b,0,none⟩=some (.int .u64 x1)∧w'.cell? ⟨b,1,none⟩=some (.int .i64 x2)∧w'.cell? ⟨b,2,none⟩=some (.pointer (some ⟨x3,0,none⟩))∧w'.cell? ⟨b,3,none⟩=some (.bool c)∧w'.cell? ⟨b,4,none⟩=some (.pointer al)∧w'.cell? ⟨b,5,none⟩=some (.pointer (some ⟨bs,0,none⟩))∧w'.cell? ⟨w.heap.size,0,none⟩=some (.int .u64 k1)∧w'.cell? ⟨w.heap.size,1,none⟩=some (.int .i64 k2)∧w'.cell? ⟨bs,3,none⟩=some (.bool false)∧Turned [] V w'):=by
  intro w' ht
  obtain⟨d0,d1,d2,d3,d4,d5,d6,d7,d8,_⟩:=HA.out w' (T2.join ht)
  exact⟨d0,d1,d2,d3,d4,d5,d6,d7,d8,ht⟩
 have Jc:=xhd (Kr.out.later T2)
 have Jo:=xhd (Kl.out.later T2)
 have HW:=xhd (HT.out.join T2)
 obtain⟨d0,d1,d2,d3,d4,d5,d6,d7,d8,_⟩:=HS.out V (Turned.refl [] V)
 clear t2 T2 dt HA
 go_wp2_with fail
 obtain⟨e0,e1,e2,e3,e4,e5,e6,e7,e8,et⟩:=HS.out _ (Turned.refl [] V).drew
 go_region_held3 (fun w'=>w'.cell? ⟨b,0,none⟩=some (.int .u64 x1)∧w'.cell? ⟨b,1,none⟩=some (.int .i64 x2)∧w'.cell? ⟨b,2,none⟩=some (.pointer (some ⟨x3,0,none⟩))∧w'.cell? ⟨b,3,none⟩=some (.bool c)∧w'.cell? ⟨b,4,none⟩=some (.pointer al)∧w'.cell? ⟨b,5,none⟩=some (.pointer (some ⟨bs,0,none⟩))∧w'.cell? ⟨w.heap.size,0,none⟩=some (.int .u64 k1)∧w'.cell? ⟨w.heap.size,1,none⟩=some (.int .i64 k2)∧w'.cell? ⟨bs,3,none⟩=some (.bool false)∧Turned [] V w')
  (first|exact⟨f0,f1,f2,f3,f4,f5,f6,f7,f8,ft⟩ |exact⟨e0,e1,e2,e3,e4,e5,e6,e7,e8,et⟩)
  (first
    |(go_at_call 95
      first
       |(with_reducible refine (HI.out _ _ (Jc.out.later (by first|exact ft|exact et))).mono ?_
         rintro e wa ⟨zg1q,rfl,yg1q,tg1q⟩
         have g1q:=xhd yg1q
         try have g2q:=xhd (g2q.out.later tg1q)
         obtain⟨f0,f1,f2,f3,f4,f5,f6,f7,f8,ft⟩:=HS.out _ (Turned.join (by first|exact ft|exact et) tg1q)
         obtain⟨vg1q,rfl⟩:=yg1q.shape
         clear yg1q tg1q))
    |(go_at_call 106
      first
       |(with_reducible refine (rsh_any (Jo.out.later (by first|exact ft|exact et)) g1q.out (x1,x2,x3) g1 g2 g3).mono ?_
         rintro e wa ⟨zg2q,rfl,yg2q,tg2q⟩
         have g2q:=xhd yg2q
         obtain⟨f0,f1,f2,f3,f4,f5,f6,f7,f8,ft⟩:=HS.out _ (Turned.join (by first|exact ft|exact et) tg2q)
         have G:=xhd (And.intro yg2q (HW.out.join ft))
         obtain⟨vg2q,rfl⟩:=yg2q.shape
         clear yg2q tg2q)))
 all_goals
  go_wp2
  go_ret
  exact⟨_,rfl,G.out⟩
theorem woE_any {w:World} {l r:Tr Nat} {x:Itm Nat} {c:Bool} {p:Value} {k1 k2:Int} (h:TrAt w (.node c l x r) p) (ho:ordI (k1,k2) (ky x)=0):
  Calls Tryz.prog 95 #[p, .agg #[.int .u64 k1, .int .i64 k2]] w (Makes w (l.join r)):=by
 obtain⟨W,hW⟩:∃W,w.alloc (.cells #[.int .u64 k1, .int .i64 k2] 84)=W:=⟨_,rfl⟩
 have TW:Turned [] w W:=hW ▸ (Turned.refl [] w).alloc _
 have BW:W.heap[w.heap.size]?=some (.cells #[.int .u64 k1, .int .i64 k2] 84 (0,0)):=hW ▸ heap_alloc_new w _
 obtain⟨b,pl,pr,rfl,m,hl,hr⟩:=h
 have NW:=TW.same m (by simp)
 have Kl:=xhd (hl.later TW)
 have Kr:=xhd (hr.later TW)
 obtain⟨al,rfl⟩:=hl.shape
 obtain⟨ar,rfl⟩:=hr.shape
 have HT:=xhd TW
 obtain⟨D,hD⟩:∃D,W.drew=D:=⟨_,rfl⟩
 have TD:Turned [] W D:=hD ▸ (Turned.refl [] W).drew
 have HO:=xhd (kord_any (k1,k2) (ky x) D)
 rw [ho] at HO
 obtain⟨d0,d1,d2,d3,d4,d5⟩:=nd_cells (TD.same NW (by simp))
 have kb:=TD.same BW (by simp)
 have k0:D.cell? ⟨w.heap.size,0,none⟩=some (.int .u64 k1):=by simp [World.cell?,kb]
 have k1':D.cell? ⟨w.heap.size,1,none⟩=some (.int .i64 k2):=by simp [World.cell?,kb]
 have HN:=xhd NW
 have HD:=xhd TD
 obtain⟨x1,x2,x3⟩:=x
 simp only at HO d0 d1 d2 ⊢
 clear TW BW NW m hl hr ho TD kb
 go_enter Tryz.func95,Tryz.ntmps95
 go_wp2_with fail
 refine wp_still_tail_at 6 hD (by kernel_rfl) (by kernel_rfl) ?_
 clear hD
 simp only [List.take_succ_cons,List.take_zero,List.drop_succ_cons,List.drop_zero]
 repeat still_step
 refine wpStill_nil ?_
 go_wp2_with fail
 with_reducible refine HO.out.mono ?_
 rintro e V ⟨rfl,t2⟩
 have T2:=HD.out.join t2
 clear d0 d1 d2 d3 d4 d5 k0 k1'
 go_wp2_with fail
 obtain⟨E,hE⟩:∃E,V.drew=E:=⟨_,rfl⟩
 have TE:Turned [] V E:=hE ▸ (Turned.refl [] V).drew
 have T3:=T2.join TE
 obtain⟨d0,d1,d2,d3,d4,d5⟩:=nd_cells (T3.same HN.out (by simp))
 simp only at d0 d1 d2
 have HJ:=xhd (join_any l r E _ _ (Kl.out.later T3) (Kr.out.later T3))
 have H3:=xhd (HT.out.join T3)
 clear T2 TE T3 t2
 refine wp_still_tail_at 8 hE (by kernel_rfl) (by kernel_rfl) ?_
 clear hE
 simp only [List.take_succ_cons,List.take_zero,List.drop_succ_cons,List.drop_zero]
 repeat still_step
 refine wpStill_nil ?_
 go_wp2_with fail
 with_reducible refine HJ.out.mono ?_
 rintro e W4 ⟨z,rfl,hz,t4⟩
 have G:=xhd (And.intro hz (H3.out.join t4))
 obtain⟨az,rfl⟩:=hz.shape
 clear hz t4
 go_wp2
 go_ret
 exact⟨_,rfl,G.out⟩
theorem without_any (k1 k2:Int):∀(t:Tr Nat),t.HH→t.CC→Tr.Srt t.list→Tr.has (k1,k2) t→∀(w:World) (p:Value),TrAt w t p→Calls Tryz.prog 95 #[p, .agg #[.int .u64 k1, .int .i64 k2]] w (Makes w (Tr.del (k1,k2) t))
 | .nil,_,_,_,hk=>(Tr.has_nil hk).elim
 | .node c l x r,hh,hc,hs,hk=>by
   intro w p h
   obtain⟨a1,a2,a3⟩:=hh
   obtain⟨c1,c2,c3⟩:=hc
   by_cases ho:ordI (k1,k2) (ky x) < 0
   ·have hkl:=Tr.has_left hs hk ho
    have ih:=without_any k1 k2 l a1 c1 (Tr.srt_left hs) hkl
    have hd:=Tr.del_high (k1,k2) l a1 c1 (Tr.srt_left hs) hkl
    cases l with
    |nil=>exact (Tr.has_nil hkl).elim
    |node cl sl sx sr=>
     cases cl
     ·rw [show Tr.del (k1,k2) (.node c (.node false sl sx sr) x r)=Tr.lsh (Tr.del (k1,k2) (.node false sl sx sr)) x r by rw [Tr.del,if_pos ho,if_neg (by simp [Tr.isR])]]
      have e:=(hd.2.1 rfl).1
      exact woB_any h ho a2 (by omega) c2 ih
     ·rw [show Tr.del (k1,k2) (.node c (.node true sl sx sr) x r)= .node true (Tr.del (k1,k2) (.node true sl sx sr)) x r by rw [Tr.del,if_pos ho,if_pos (by simp [Tr.isR])]]
      exact woA_any h ho ih
   ·by_cases ho':0 < ordI (k1,k2) (ky x)
    ·have hkr:=Tr.has_right hs hk ho'
     have ih:=without_any k1 k2 r a2 c2 (Tr.srt_right hs) hkr
     have hd:=Tr.del_high (k1,k2) r a2 c2 (Tr.srt_right hs) hkr
     cases r with
     |nil=>exact (Tr.has_nil hkr).elim
     |node cr sl sx sr=>
      cases cr
      ·rw [show Tr.del (k1,k2) (.node c l x (.node false sl sx sr))=Tr.rsh l x (Tr.del (k1,k2) (.node false sl sx sr)) by rw [Tr.del,if_neg ho,if_pos ho',if_neg (by simp [Tr.isR])]]
       have e:=(hd.2.1 rfl).1
       exact woD_any h ho' a1 (by omega) c1 ih
      ·rw [show Tr.del (k1,k2) (.node c l x (.node true sl sx sr))= .node true l x (Tr.del (k1,k2) (.node true sl sx sr)) by rw [Tr.del,if_neg ho,if_pos ho',if_pos (by simp [Tr.isR])]]
       exact woC_any h ho' ih
    ·rw [show Tr.del (k1,k2) (.node c l x r)=l.join r by rw [Tr.del,if_neg ho,if_neg ho']]
     exact woE_any h (by omega)
end Go.Proofs.YtfmciiffcmfagaaGreat
namespace Go.Proofs.YtfmciiffcmfagaaGreat
open Go.RowKit
namespace Tr
section
variable {β:Type}
def fnd (k:Int×Int):Tr β→Option (Itm β)
 |nil=>none
 |node _ l x r=>if ordI k (ky x) < 0 then l.fnd k else if 0 < ordI k (ky x) then r.fnd k else some x
def findL (k:Int×Int) (L:List (Itm β)):Option (Itm β):=L.find? fun x=>decide (ordI k (ky x)=0)
theorem findL_none {k:Int×Int} {L:List (Itm β)} (h:∀x ∈ L,ordI k (ky x)≠0):findL k L=none:=by
 unfold findL
 rw [List.find?_eq_none]
 intro x hx
 simpa using h x hx
theorem list_fnd (k:Int×Int):∀t:Tr β,Srt t.list→t.fnd k=findL k t.list
 |nil,_=>rfl
 |node c l x r,hs=>by
  have hs':Srt (l.list++x::r.list):=hs
  obtain⟨h1,h2,h3⟩:=List.pairwise_append.1 hs'
  obtain⟨h4,h5⟩:=List.pairwise_cons.1 h2
  have il:=list_fnd k l h1
  have ir:=list_fnd k r h5
  have hd:findL k (l.list++x::r.list)=(findL k l.list).or ((if ordI k (ky x)=0 then some x else findL k r.list)):=by
   unfold findL
   rw [List.find?_append,List.find?_cons]
   by_cases e:ordI k (ky x)=0<;>simp [e]
  simp only [fnd,list]
  rw [hd]
  split
  ·rename_i h
   have hr:findL k r.list=none:=findL_none fun y hy=>by have:=ord_trans h (h4 y hy);omega
   rw [if_neg (show ¬ordI k (ky x)=0 by omega),hr,il,Option.or_none]
  ·rename_i h
   have hl:∀y ∈ l.list,ordI k (ky y)≠0:=fun y hy=>by
    have e1:=h3 y hy x (by simp)
    have e2:=ord_flip k (ky x)
    intro e
    have e3:=ord_zero.1 e
    rw [←e3] at e1
    omega
   rw [findL_none hl]
   split
   ·rename_i h'
    rw [if_neg (show ¬ordI k (ky x)=0 by omega),ir,Option.none_or]
   ·rename_i h'
    rw [if_pos (show ordI k (ky x)=0 by omega),Option.none_or]
end
end Tr
def NodeOf (w:World) (o:Option (Itm Nat)) (q:Value):Prop:=
 match o with
 |none=>q= .pointer none
 |some x=>∃b c pl pr,q= .pointer (some ⟨b,0,none⟩)∧w.heap[b]?=some (.cells (ndCells x c pl pr) tNd (0,0))
theorem find_any {w:World} {t:Tr Nat} {p:Value} (h:TrAt w t p) (k1 k2:Int):
  Calls Tryz.prog 82 #[p, .agg #[.int .u64 k1, .int .i64 k2]] w fun e w'=>∃q,e= .returned q∧NodeOf w' (t.fnd (k1,k2)) q∧Turned [] w w':=by
 obtain⟨W,hW⟩:∃W,w.alloc (.cells #[.int .u64 k1, .int .i64 k2] 84)=W:=⟨_,rfl⟩
 have TW:Turned [] w W:=hW ▸ (Turned.refl [] w).alloc _
 have BW:W.heap[w.heap.size]?=some (.cells #[.int .u64 k1, .int .i64 k2] 84 (0,0)):=hW ▸ heap_alloc_new w _
 have K:=xhd (h.later TW)
 have HT:=xhd TW
 have HB:=xhd BW
 obtain⟨a,rfl⟩:=h.shape
 clear h TW BW
 go_enter Tryz.func82,Tryz.ntmps82
 go_wp2_with fail
 go_loopg [0] (t.size) (fun g p wr=>∃t':Tr Nat,g=t'.size∧Hid (TrAt wr t' p)∧Hid (Turned [] W wr)∧Hid (t'.fnd (k1,k2)=t.fnd (k1,k2)))
 case atStart=>exact⟨t,rfl,K,xhd (Turned.refl _ _),xhd rfl⟩
 case round=>
  obtain⟨t',rfl,KT,HTr,HF⟩:=hrel
  cases t' with
  |nil=>
   obtain rfl:=KT.out
   go_wp2
   go_ret
   refine⟨_,rfl,?_,HT.out.join HTr.out⟩
   rw [←HF.out]
   exact rfl
  |node c l x r=>
   obtain⟨b,pl,pr,rfl,m,hl,hr⟩:=KT.out
   have KL:=xhd hl
   have KR:=xhd hr
   have KM:=xhd m
   obtain⟨al,rfl⟩:=hl.shape
   obtain⟨ar,rfl⟩:=hr.shape
   obtain⟨D,hD⟩:∃D,wr.drew=D:=⟨_,rfl⟩
   have TD:Turned [] wr D:=hD ▸ (Turned.refl [] wr).drew
   have T2:=HTr.out.join TD
   obtain⟨d0,d1,d2,d3,d4,d5⟩:=nd_cells (TD.same m (by simp))
   have kb:=T2.same HB.out (by simp)
   have k0:D.cell? ⟨w.heap.size,0,none⟩=some (.int .u64 k1):=by simp [World.cell?,kb]
   have k1':D.cell? ⟨w.heap.size,1,none⟩=some (.int .i64 k2):=by simp [World.cell?,kb]
   obtain⟨o,hoo⟩:∃o,ordI (k1,k2) (ky x)=o:=⟨_,rfl⟩
   have HO:=xhd (kord_any (k1,k2) (ky x) D)
   rw [hoo] at HO
   have HOO:=xhd hoo
   have HD:=xhd TD
   obtain⟨x1,x2,x3⟩:=x
   simp only at HO d0 d1 d2
   clear m hl hr TD T2 kb hoo
   go_wp2_with fail
   refine wp_still_tail_at 6 hD (by kernel_rfl) (by kernel_rfl) ?_
   clear hD
   simp only [List.take_succ_cons,List.take_zero,List.drop_succ_cons,List.drop_zero]
   repeat still_step
   refine wpStill_nil ?_
   go_wp2_with fail
   with_reducible refine HO.out.mono ?_
   rintro e V ⟨rfl,t2⟩
   have T3:=HD.out.join t2
   obtain⟨d0,d1,d2,d3,d4,d5⟩:=nd_cells (T3.same KM.out (by simp))
   have H3:=xhd T3
   clear t2 T3 k0 k1' d0 d1 d2 d3
   by_cases o1:o < 0
   ·have e1:decide (o < 0)=true:=by simpa using o1
    go_wp2
    go_roundg (l.size)
    case measure=>simp only [Tr.size];omega
    case rel=>
     refine⟨l,rfl,xhd (KL.out.later H3.out),xhd (HTr.out.join H3.out),xhd ?_⟩
     have e:=HF.out
     rw [Tr.fnd,HOO.out,if_pos (show o < 0 by omega)] at e
     exact e
   ·have e1:decide (o < 0)=false:=by simpa using o1
    by_cases o2:0 < o
    ·have e2:decide (0 < o)=true:=by simpa using o2
     go_wp2
     go_roundg (r.size)
     case measure=>simp only [Tr.size];omega
     case rel=>
      refine⟨r,rfl,xhd (KR.out.later H3.out),xhd (HTr.out.join H3.out),xhd ?_⟩
      have e:=HF.out
      rw [Tr.fnd,HOO.out,if_neg (show ¬o < 0 by omega),if_pos (show 0 < o by omega)] at e
      exact e
    ·have e2:decide (0 < o)=false:=by simpa using o2
     go_wp2
     go_ret
     refine⟨_,rfl,?_,HT.out.join (HTr.out.join H3.out)⟩
     have e:=HF.out
     rw [Tr.fnd,HOO.out,if_neg (show ¬o < 0 by omega),if_neg (show ¬0 < o by omega)] at e
     rw [←e]
     exact⟨b,c,_,_,rfl,H3.out.same KM.out (by simp)⟩
end Go.Proofs.YtfmciiffcmfagaaGreat
