/-
  join's long ways (made by gen_rb2.py).
  with (made by gen_rb3.py).
-/
import Derived.Test.YtfmciiffcmfagaaGreatZAO
import Derived.Test.YtfmciiffcmfagaaGreatZAl
set_option maxRecDepth 100000
set_option maxHeartbeats 25600000
namespace Go.Proofs.YtfmciiffcmfagaaGreat
open Go.RowKit
theorem joinC_any {w:World} {ll lr rl rr:Tr Nat} {lx rx:Itm Nat} {pl pr:Value} (hl:TrAt w (.node false ll lx lr) pl) (hr:TrAt w (.node true rl rx rr) pr)
  (IH:∀(W':World) (p q:Value),TrAt W' (.node false ll lx lr) p→TrAt W' rl q→Calls Tryz.prog 107 #[p,q] W' (Makes W' ((Tr.node false ll lx lr).join rl))):
  Calls Tryz.prog 107 #[pl,pr] w (Makes w (.node true ((Tr.node false ll lx lr).join rl) rx rr)):=by
 have Kl:=xhd hl
 have Kr:=xhd hr
 have HI:=xhd IH
 obtain⟨bl,pll,plr,rfl,ml,hll,hlr⟩:=hl
 obtain⟨br,prl,prr,rfl,mr,hrl,hrr⟩:=hr
 have Kll:=xhd hll
 have Klr:=xhd hlr
 have Krl:=xhd hrl
 have Krr:=xhd hrr
 obtain⟨all,rfl⟩:=hll.shape
 obtain⟨alr,rfl⟩:=hlr.shape
 obtain⟨arl,rfl⟩:=hrl.shape
 obtain⟨arr,rfl⟩:=hrr.shape
 obtain⟨lx1,lx2,lx3⟩:=lx
 obtain⟨rx1,rx2,rx3⟩:=rx
 have HS:Hid (∀w',Turned [] w w'→w'.cell? ⟨bl,0,none⟩=some (.int .u64 lx1)∧w'.cell? ⟨bl,1,none⟩=some (.int .i64 lx2)∧w'.cell? ⟨bl,2,none⟩=some (.pointer (some ⟨lx3,0,none⟩))∧w'.cell? ⟨bl,3,none⟩=some (.bool false)∧w'.cell? ⟨bl,4,none⟩=some (.pointer all)∧w'.cell? ⟨bl,5,none⟩=some (.pointer alr)∧w'.cell? ⟨br,0,none⟩=some (.int .u64 rx1)∧w'.cell? ⟨br,1,none⟩=some (.int .i64 rx2)∧w'.cell? ⟨br,2,none⟩=some (.pointer (some ⟨rx3,0,none⟩))∧w'.cell? ⟨br,3,none⟩=some (.bool true)∧w'.cell? ⟨br,4,none⟩=some (.pointer arl)∧w'.cell? ⟨br,5,none⟩=some (.pointer arr)∧Turned [] w w'):=by
  intro w' ht
  obtain⟨p0,p1,p2,p3,p4,p5⟩:=nd_cells (ht.same ml (by simp))
  obtain⟨q0,q1,q2,q3,q4,q5⟩:=nd_cells (ht.same mr (by simp))
  exact⟨p0,p1,p2,p3,p4,p5,q0,q1,q2,q3,q4,q5,ht⟩
 have HW:=xhd (Turned.refl [] w)
 obtain⟨d0,d1,d2,d3,d4,d5,d6,d7,d8,d9,d10,d11,dt⟩:=HS.out _ (Turned.refl [] w)
 clear IH ml mr hll hlr hrl hrr
 go_enter Tryz.func107,Tryz.ntmps107
 go_wp2_with fail
 obtain⟨e0,e1,e2,e3,e4,e5,e6,e7,e8,e9,e10,e11,et⟩:=HS.out _ (Turned.refl [] w).drew
 go_region_held3 (fun w'=>w'.cell? ⟨bl,0,none⟩=some (.int .u64 lx1)∧w'.cell? ⟨bl,1,none⟩=some (.int .i64 lx2)∧w'.cell? ⟨bl,2,none⟩=some (.pointer (some ⟨lx3,0,none⟩))∧w'.cell? ⟨bl,3,none⟩=some (.bool false)∧w'.cell? ⟨bl,4,none⟩=some (.pointer all)∧w'.cell? ⟨bl,5,none⟩=some (.pointer alr)∧w'.cell? ⟨br,0,none⟩=some (.int .u64 rx1)∧w'.cell? ⟨br,1,none⟩=some (.int .i64 rx2)∧w'.cell? ⟨br,2,none⟩=some (.pointer (some ⟨rx3,0,none⟩))∧w'.cell? ⟨br,3,none⟩=some (.bool true)∧w'.cell? ⟨br,4,none⟩=some (.pointer arl)∧w'.cell? ⟨br,5,none⟩=some (.pointer arr)∧Turned [] w w')
  (first|exact⟨f0,f1,f2,f3,f4,f5,f6,f7,f8,f9,f10,f11,ft⟩ |exact⟨e0,e1,e2,e3,e4,e5,e6,e7,e8,e9,e10,e11,et⟩)
  (first
    |(go_at_call 107
      first
       |(with_reducible refine (HI.out _ _ _ (Kl.out.later (by first|exact ft|exact et)) (Krl.out.later (by first|exact ft|exact et))).mono ?_
         rintro e wa ⟨zg1,rfl,yg1,tg1⟩
         have g1:=xhd yg1
         try have g2:=xhd (g2.out.later tg1)
         obtain⟨f0,f1,f2,f3,f4,f5,f6,f7,f8,f9,f10,f11,ft⟩:=HS.out _ (Turned.join (by first|exact ft|exact et) tg1)
         obtain⟨vg1,rfl⟩:=yg1.shape
         clear yg1 tg1))
    |(go_at_call 104
      first
       |(with_reducible refine (red_any g1.out (Krr.out.later (by first|exact ft|exact et)) (rx1,rx2,rx3)).mono ?_
         rintro e wa ⟨zg2,rfl,yg2,tg2⟩
         have g2:=xhd yg2
         obtain⟨f0,f1,f2,f3,f4,f5,f6,f7,f8,f9,f10,f11,ft⟩:=HS.out _ (Turned.join (by first|exact ft|exact et) tg2)
         have G:=xhd (And.intro yg2 (HW.out.join ft))
         obtain⟨vg2,rfl⟩:=yg2.shape
         clear yg2 tg2)))
 all_goals
  go_wp2
  go_ret
  exact⟨_,rfl,G.out⟩
theorem joinD_any {w:World} {ll lr rl rr:Tr Nat} {lx rx:Itm Nat} {pl pr:Value} (hl:TrAt w (.node true ll lx lr) pl) (hr:TrAt w (.node false rl rx rr) pr)
  (IH:∀(W':World) (p q:Value),TrAt W' lr p→TrAt W' (.node false rl rx rr) q→Calls Tryz.prog 107 #[p,q] W' (Makes W' (lr.join (.node false rl rx rr)))):
  Calls Tryz.prog 107 #[pl,pr] w (Makes w (.node true ll lx (lr.join (.node false rl rx rr)))):=by
 have Kl:=xhd hl
 have Kr:=xhd hr
 have HI:=xhd IH
 obtain⟨bl,pll,plr,rfl,ml,hll,hlr⟩:=hl
 obtain⟨br,prl,prr,rfl,mr,hrl,hrr⟩:=hr
 have Kll:=xhd hll
 have Klr:=xhd hlr
 have Krl:=xhd hrl
 have Krr:=xhd hrr
 obtain⟨all,rfl⟩:=hll.shape
 obtain⟨alr,rfl⟩:=hlr.shape
 obtain⟨arl,rfl⟩:=hrl.shape
 obtain⟨arr,rfl⟩:=hrr.shape
 obtain⟨lx1,lx2,lx3⟩:=lx
 obtain⟨rx1,rx2,rx3⟩:=rx
 have HS:Hid (∀w',Turned [] w w'→w'.cell? ⟨bl,0,none⟩=some (.int .u64 lx1)∧w'.cell? ⟨bl,1,none⟩=some (.int .i64 lx2)∧w'.cell? ⟨bl,2,none⟩=some (.pointer (some ⟨lx3,0,none⟩))∧w'.cell? ⟨bl,3,none⟩=some (.bool true)∧w'.cell? ⟨bl,4,none⟩=some (.pointer all)∧w'.cell? ⟨bl,5,none⟩=some (.pointer alr)∧w'.cell? ⟨br,0,none⟩=some (.int .u64 rx1)∧w'.cell? ⟨br,1,none⟩=some (.int .i64 rx2)∧w'.cell? ⟨br,2,none⟩=some (.pointer (some ⟨rx3,0,none⟩))∧w'.cell? ⟨br,3,none⟩=some (.bool false)∧w'.cell? ⟨br,4,none⟩=some (.pointer arl)∧w'.cell? ⟨br,5,none⟩=some (.pointer arr)∧Turned [] w w'):=by
  intro w' ht
  obtain⟨p0,p1,p2,p3,p4,p5⟩:=nd_cells (ht.same ml (by simp))
  obtain⟨q0,q1,q2,q3,q4,q5⟩:=nd_cells (ht.same mr (by simp))
  exact⟨p0,p1,p2,p3,p4,p5,q0,q1,q2,q3,q4,q5,ht⟩
 have HW:=xhd (Turned.refl [] w)
 obtain⟨d0,d1,d2,d3,d4,d5,d6,d7,d8,d9,d10,d11,dt⟩:=HS.out _ (Turned.refl [] w)
 clear IH ml mr hll hlr hrl hrr
 go_enter Tryz.func107,Tryz.ntmps107
 go_wp2_with fail
 obtain⟨e0,e1,e2,e3,e4,e5,e6,e7,e8,e9,e10,e11,et⟩:=HS.out _ (Turned.refl [] w).drew
 go_region_held3 (fun w'=>w'.cell? ⟨bl,0,none⟩=some (.int .u64 lx1)∧w'.cell? ⟨bl,1,none⟩=some (.int .i64 lx2)∧w'.cell? ⟨bl,2,none⟩=some (.pointer (some ⟨lx3,0,none⟩))∧w'.cell? ⟨bl,3,none⟩=some (.bool true)∧w'.cell? ⟨bl,4,none⟩=some (.pointer all)∧w'.cell? ⟨bl,5,none⟩=some (.pointer alr)∧w'.cell? ⟨br,0,none⟩=some (.int .u64 rx1)∧w'.cell? ⟨br,1,none⟩=some (.int .i64 rx2)∧w'.cell? ⟨br,2,none⟩=some (.pointer (some ⟨rx3,0,none⟩))∧w'.cell? ⟨br,3,none⟩=some (.bool false)∧w'.cell? ⟨br,4,none⟩=some (.pointer arl)∧w'.cell? ⟨br,5,none⟩=some (.pointer arr)∧Turned [] w w')
  (first|exact⟨f0,f1,f2,f3,f4,f5,f6,f7,f8,f9,f10,f11,ft⟩ |exact⟨e0,e1,e2,e3,e4,e5,e6,e7,e8,e9,e10,e11,et⟩)
  (first
    |(go_at_call 107
      first
       |(with_reducible refine (HI.out _ _ _ (Klr.out.later (by first|exact ft|exact et)) (Kr.out.later (by first|exact ft|exact et))).mono ?_
         rintro e wa ⟨zg1,rfl,yg1,tg1⟩
         have g1:=xhd yg1
         try have g2:=xhd (g2.out.later tg1)
         obtain⟨f0,f1,f2,f3,f4,f5,f6,f7,f8,f9,f10,f11,ft⟩:=HS.out _ (Turned.join (by first|exact ft|exact et) tg1)
         obtain⟨vg1,rfl⟩:=yg1.shape
         clear yg1 tg1))
    |(go_at_call 104
      first
       |(with_reducible refine (red_any (Kll.out.later (by first|exact ft|exact et)) g1.out (lx1,lx2,lx3)).mono ?_
         rintro e wa ⟨zg2,rfl,yg2,tg2⟩
         have g2:=xhd yg2
         obtain⟨f0,f1,f2,f3,f4,f5,f6,f7,f8,f9,f10,f11,ft⟩:=HS.out _ (Turned.join (by first|exact ft|exact et) tg2)
         have G:=xhd (And.intro yg2 (HW.out.join ft))
         obtain⟨vg2,rfl⟩:=yg2.shape
         clear yg2 tg2)))
 all_goals
  go_wp2
  go_ret
  exact⟨_,rfl,G.out⟩
theorem joinE_any {w:World} {r:Tr Nat} {pl pr:Value} (hl:TrAt w .nil pl) (hr:TrAt w r pr):Calls Tryz.prog 107 #[pl,pr] w (Makes w r):=by
 obtain rfl:pl= .pointer none:=hl
 have H:=xhd hr
 obtain⟨a,rfl⟩:=hr.shape
 clear hr
 go_enter Tryz.func107,Tryz.ntmps107
 go_wp2
 go_ret
 exact⟨_,rfl,H.out,Turned.refl _ _⟩
theorem joinF_any {w:World} {l:Tr Nat} {pl pr:Value} (hl:TrAt w l pl) (hr:TrAt w .nil pr) (hn:pl≠ .pointer none):Calls Tryz.prog 107 #[pl,pr] w (Makes w l):=by
 obtain rfl:pr= .pointer none:=hr
 have H:=xhd hl
 obtain⟨a,rfl⟩:=hl.shape
 cases a with
 |none=>exact absurd rfl hn
 |some a=>
  clear hl
  go_enter Tryz.func107,Tryz.ntmps107
  go_wp2
  go_ret
  exact⟨_,rfl,H.out,Turned.refl _ _⟩
theorem joinR_any {w:World} {ll lr rl rr t:Tr Nat} {lx rx:Itm Nat} {pl pr:Value} (hl:TrAt w (.node true ll lx lr) pl) (hr:TrAt w (.node true rl rx rr) pr)
  (H:Calls Tryz.prog 116 #[pl,pr] w (Makes w t)):Calls Tryz.prog 107 #[pl,pr] w (Makes w t):=by
 obtain⟨bl,pll,plr,rfl,ml,hll,hlr⟩:=hl
 obtain⟨br,prl,prr,rfl,mr,hrl,hrr⟩:=hr
 obtain⟨_,_,_,c3,_,_⟩:=nd_cells ml
 obtain⟨_,_,_,k3,_,_⟩:=nd_cells mr
 have HH:=xhd H
 clear H ml mr hll hlr hrl hrr
 go_enter Tryz.func107,Tryz.ntmps107
 go_wp2_with fail
 refine HH.out.mono ?_
 rintro e w1 ⟨q,rfl,hq,tq⟩
 have G:=xhd (And.intro hq tq)
 obtain⟨aq,rfl⟩:=hq.shape
 clear hq tq
 go_wp2
 go_ret
 exact⟨_,rfl,G.out⟩
theorem joinK_any {w:World} {ll lr rl rr t:Tr Nat} {lx rx:Itm Nat} {pl pr:Value} (hl:TrAt w (.node false ll lx lr) pl) (hr:TrAt w (.node false rl rx rr) pr)
  (H:Calls Tryz.prog 117 #[pl,pr] w (Makes w t)):Calls Tryz.prog 107 #[pl,pr] w (Makes w t):=by
 obtain⟨bl,pll,plr,rfl,ml,hll,hlr⟩:=hl
 obtain⟨br,prl,prr,rfl,mr,hrl,hrr⟩:=hr
 obtain⟨_,_,_,c3,_,_⟩:=nd_cells ml
 obtain⟨_,_,_,k3,_,_⟩:=nd_cells mr
 have HH:=xhd H
 clear H ml mr hll hlr hrl hrr
 go_enter Tryz.func107,Tryz.ntmps107
 go_wp2_with fail
 refine HH.out.mono ?_
 rintro e w1 ⟨q,rfl,hq,tq⟩
 have G:=xhd (And.intro hq tq)
 obtain⟨aq,rfl⟩:=hq.shape
 clear hq tq
 go_wp2
 go_ret
 exact⟨_,rfl,G.out⟩
theorem join_any (l r:Tr Nat):∀(w:World) (pl pr:Value),TrAt w l pl→TrAt w r pr→Calls Tryz.prog 107 #[pl,pr] w (Makes w (l.join r)):=by
 induction l,r using Tr.join.induct with
 |case1 r=>
  intro w pl pr hl hr
  rw [show (Tr.nil:Tr Nat).join r=r by simp [Tr.join]]
  exact joinE_any hl hr
 |case2 l h=>
  intro w pl pr hl hr
  rw [show l.join .nil=l by cases l<;>simp [Tr.join]]
  refine joinF_any hl hr ?_
  cases l with
  |nil=>exact (h rfl).elim
  |node c a x b=>obtain⟨b,_,_,rfl,_⟩:=hl;simp
 |case3 ll lx lr rl rx rr ih=>
  intro w pl pr hl hr
  rw [show (Tr.node true ll lx lr).join (Tr.node true rl rx rr)=Tr.jred ll lx (lr.join rl) rx rr by simp [Tr.join]]
  by_cases hm:(lr.join rl).isR=true
  ·obtain⟨a,z,b,e⟩:=red_node hm
   rw [e] at ih ⊢
   exact joinR_any hl hr (jredB_any hl hr ih)
  ·have hm':(lr.join rl).isR=false:=by simpa using hm
   rw [show Tr.jred ll lx (lr.join rl) rx rr= .node true ll lx (.node true (lr.join rl) rx rr) by rcases not_red hm' with e|⟨_,_,_,e⟩<;>rw [e]<;>rfl]
   exact joinR_any hl hr (jredA_any hl hr ih hm')
 |case4 ll lx lr rl rx rr ih=>
  intro w pl pr hl hr
  rw [show (Tr.node false ll lx lr).join (Tr.node false rl rx rr)=Tr.jblk ll lx (lr.join rl) rx rr by simp [Tr.join]]
  by_cases hm:(lr.join rl).isR=true
  ·obtain⟨a,z,b,e⟩:=red_node hm
   rw [e] at ih ⊢
   exact joinK_any hl hr (jblkB_any hl hr ih)
  ·have hm':(lr.join rl).isR=false:=by simpa using hm
   rw [show Tr.jblk ll lx (lr.join rl) rx rr=ll.lsh lx (.node false (lr.join rl) rx rr) by rcases not_red hm' with e|⟨_,_,_,e⟩<;>rw [e]<;>rfl]
   exact joinK_any hl hr (jblkA_any hl hr ih hm')
 |case5 ll lx lr rl rx rr ih=>
  intro w pl pr hl hr
  rw [show (Tr.node false ll lx lr).join (Tr.node true rl rx rr)= .node true ((Tr.node false ll lx lr).join rl) rx rr by simp [Tr.join]]
  exact joinC_any hl hr ih
 |case6 ll lx lr rl rx rr ih=>
  intro w pl pr hl hr
  rw [show (Tr.node true ll lx lr).join (Tr.node false rl rx rr)= .node true ll lx (lr.join (.node false rl rx rr)) by simp [Tr.join]]
  exact joinD_any hl hr ih
theorem withN_any {w:World} {p:Value} (h:TrAt w .nil p) (it:Itm Nat):Calls Tryz.prog 98 #[p,itV it] w (Makes w (.node true .nil it .nil)):=by
 obtain rfl:p= .pointer none:=h
 obtain⟨W,hW⟩:∃W,w.alloc (.cells #[.int .u64 it.1, .int .i64 it.2.1, .pointer (some ⟨it.2.2,0,none⟩)] tIt)=W:=⟨_,rfl⟩
 have TW:Turned [] w W:=hW ▸ (Turned.refl [] w).alloc _
 have BW:Bx W w.heap.size it:=hW ▸ bx_new w it
 obtain⟨b0,b1,b2⟩:=bx_cells BW
 have HR:=xhd (red_any (w:=W) (l:= .nil) (r:= .nil) (pl:= .pointer none) (pr:= .pointer none) rfl rfl it)
 have HT:=xhd TW
 obtain⟨i1,i2,i3⟩:=it
 simp only [itV] at hW HR b0 b1 b2 ⊢
 clear TW BW
 go_enter Tryz.func98,Tryz.ntmps98
 go_wp2_with fail
 refine HR.out.mono ?_
 rintro e w1 ⟨q,rfl,hq,tq⟩
 have G:=xhd (And.intro hq (HT.out.join tq))
 obtain⟨aq,rfl⟩:=hq.shape
 clear hq tq
 go_wp2
 go_ret
 exact⟨_,rfl,G.out⟩
theorem withA_any {w:World} {l r:Tr Nat} {x it:Itm Nat} {p:Value} (h:TrAt w (.node true l x r) p) (ho:ordI (ky it) (ky x) < 0)
  (IH:∀(W':World) (q:Value),TrAt W' l q→Calls Tryz.prog 98 #[q,itV it] W' (Makes W' (Tr.ins it l))):Calls Tryz.prog 98 #[p,itV it] w (Makes w (.node true (Tr.ins it l) x r)):=by
 obtain⟨W,hW⟩:∃W,w.alloc (.cells #[.int .u64 it.1, .int .i64 it.2.1, .pointer (some ⟨it.2.2,0,none⟩)] tIt)=W:=⟨_,rfl⟩
 have TW:Turned [] w W:=hW ▸ (Turned.refl [] w).alloc _
 have BW:Bx W w.heap.size it:=hW ▸ bx_new w it
 obtain⟨b,pl,pr,rfl,m,hl,hr⟩:=h
 obtain⟨al,rfl⟩:=hl.shape
 obtain⟨ar,rfl⟩:=hr.shape
 have NW:=TW.same m (by simp)
 have HI:=xhd IH
 have Hs:=xhd (hl.later TW)
 have Ho:=xhd (hr.later TW)
 have HT:=xhd TW
 have HN:=xhd NW
 have HB:=xhd BW
 obtain⟨o,hoo⟩:∃o,ordI (ky it) (ky x)=o:=⟨_,rfl⟩
 have HO:=xhd (fun W'=>kord_any (ky it) (ky x) W')
 rw [hoo] at HO ho
 have ho':decide (o < 0)=true:=by simpa using ho
 obtain⟨_,_,_,_,c4,c5⟩:=nd_cells NW
 obtain⟨x1,x2,x3⟩:=x
 obtain⟨i1,i2,i3⟩:=it
 simp only [itV] at hW HO HI c4 c5 ⊢
 clear hoo TW BW NW m hl hr IH ho
 go_enter Tryz.func98,Tryz.ntmps98
 go_wp2_with fail
 go_quiet (fail)
 go_wp2_with fail
 obtain⟨D,hD⟩:∃D,(W.drewN nq).drew=D:=⟨_,rfl⟩
 have TD:Turned [] W D:=hD ▸ ((Turned.refl [] W).drewN nq).drew
 obtain⟨d0,d1,d2,d3,d4,d5⟩:=nd_cells (TD.same HN.out (by simp))
 obtain⟨e0,e1,e2⟩:=bx_cells (TD.same HB.out (by simp))
 simp only at d0 d1 d2 e0 e1 e2
 refine wp_still_tail_at 7 hD (by kernel_rfl) (by kernel_rfl) ?_
 clear hD
 simp only [List.take_succ_cons,List.take_zero,List.drop_succ_cons,List.drop_zero]
 repeat still_step
 refine wpStill_nil ?_
 go_wp2_with fail
 with_reducible refine (HO.out _).mono ?_
 rintro e W2 ⟨rfl,t2⟩
 have T2:=TD.join t2
 obtain⟨d0,d1,d2,d3,d4,d5⟩:=nd_cells (T2.same HN.out (by simp))
 obtain⟨e0,e1,e2⟩:=bx_cells (T2.same HB.out (by simp))
 simp only at d0 d1 d2 e0 e1 e2
 have H2:=xhd T2
 clear t2 TD c4 c5
 go_wp2_with fail
 with_reducible refine (HI.out _ _ (Hs.out.later H2.out)).mono ?_
 rintro e W3 ⟨q,rfl,hq,t3'⟩
 have t3:=H2.out.join t3'
 obtain⟨d0,d1,d2,d3,d4,d5⟩:=nd_cells (t3.same HN.out (by simp))
 simp only at d0 d1 d2
 have G1:=xhd hq
 have HL:=xhd (red_any G1.out (Ho.out.later t3) (x1,x2,x3))
 have H3:=xhd (HT.out.join t3)
 obtain⟨aq,rfl⟩:=hq.shape
 simp only [itV] at HL
 clear hq t3' t3
 go_wp2_with fail
 with_reducible refine HL.out.mono ?_
 rintro e W4 ⟨z,rfl,hz,t4⟩
 have G:=xhd (And.intro hz (H3.out.join t4))
 obtain⟨az,rfl⟩:=hz.shape
 clear hz t4
 go_wp2
 go_ret
 exact⟨_,rfl,G.out⟩
theorem withB_any {w:World} {l r:Tr Nat} {x it:Itm Nat} {p:Value} (h:TrAt w (.node false l x r) p) (ho:ordI (ky it) (ky x) < 0)
  (IH:∀(W':World) (q:Value),TrAt W' l q→Calls Tryz.prog 98 #[q,itV it] W' (Makes W' (Tr.ins it l))):Calls Tryz.prog 98 #[p,itV it] w (Makes w (Tr.bal (Tr.ins it l) x r)):=by
 obtain⟨W,hW⟩:∃W,w.alloc (.cells #[.int .u64 it.1, .int .i64 it.2.1, .pointer (some ⟨it.2.2,0,none⟩)] tIt)=W:=⟨_,rfl⟩
 have TW:Turned [] w W:=hW ▸ (Turned.refl [] w).alloc _
 have BW:Bx W w.heap.size it:=hW ▸ bx_new w it
 obtain⟨b,pl,pr,rfl,m,hl,hr⟩:=h
 obtain⟨al,rfl⟩:=hl.shape
 obtain⟨ar,rfl⟩:=hr.shape
 have NW:=TW.same m (by simp)
 have HI:=xhd IH
 have Hs:=xhd (hl.later TW)
 have Ho:=xhd (hr.later TW)
 have HT:=xhd TW
 have HN:=xhd NW
 have HB:=xhd BW
 obtain⟨o,hoo⟩:∃o,ordI (ky it) (ky x)=o:=⟨_,rfl⟩
 have HO:=xhd (fun W'=>kord_any (ky it) (ky x) W')
 rw [hoo] at HO ho
 have ho':decide (o < 0)=true:=by simpa using ho
 obtain⟨_,_,_,_,c4,c5⟩:=nd_cells NW
 obtain⟨x1,x2,x3⟩:=x
 obtain⟨i1,i2,i3⟩:=it
 simp only [itV] at hW HO HI c4 c5 ⊢
 clear hoo TW BW NW m hl hr IH ho
 go_enter Tryz.func98,Tryz.ntmps98
 go_wp2_with fail
 go_quiet (fail)
 go_wp2_with fail
 obtain⟨D,hD⟩:∃D,(W.drewN nq).drew=D:=⟨_,rfl⟩
 have TD:Turned [] W D:=hD ▸ ((Turned.refl [] W).drewN nq).drew
 obtain⟨d0,d1,d2,d3,d4,d5⟩:=nd_cells (TD.same HN.out (by simp))
 obtain⟨e0,e1,e2⟩:=bx_cells (TD.same HB.out (by simp))
 simp only at d0 d1 d2 e0 e1 e2
 refine wp_still_tail_at 7 hD (by kernel_rfl) (by kernel_rfl) ?_
 clear hD
 simp only [List.take_succ_cons,List.take_zero,List.drop_succ_cons,List.drop_zero]
 repeat still_step
 refine wpStill_nil ?_
 go_wp2_with fail
 with_reducible refine (HO.out _).mono ?_
 rintro e W2 ⟨rfl,t2⟩
 have T2:=TD.join t2
 obtain⟨d0,d1,d2,d3,d4,d5⟩:=nd_cells (T2.same HN.out (by simp))
 obtain⟨e0,e1,e2⟩:=bx_cells (T2.same HB.out (by simp))
 simp only at d0 d1 d2 e0 e1 e2
 have H2:=xhd T2
 clear t2 TD c4 c5
 go_wp2_with fail
 with_reducible refine (HI.out _ _ (Hs.out.later H2.out)).mono ?_
 rintro e W3 ⟨q,rfl,hq,t3'⟩
 have t3:=H2.out.join t3'
 obtain⟨d0,d1,d2,d3,d4,d5⟩:=nd_cells (t3.same HN.out (by simp))
 simp only at d0 d1 d2
 have G1:=xhd hq
 have HL:=xhd (bal_any G1.out (Ho.out.later t3) (x1,x2,x3))
 have H3:=xhd (HT.out.join t3)
 obtain⟨aq,rfl⟩:=hq.shape
 simp only [itV] at HL
 clear hq t3' t3
 go_wp2_with fail
 with_reducible refine HL.out.mono ?_
 rintro e W4 ⟨z,rfl,hz,t4⟩
 have G:=xhd (And.intro hz (H3.out.join t4))
 obtain⟨az,rfl⟩:=hz.shape
 clear hz t4
 go_wp2
 go_ret
 exact⟨_,rfl,G.out⟩
theorem withC_any {w:World} {l r:Tr Nat} {x it:Itm Nat} {p:Value} (h:TrAt w (.node true l x r) p) (ho:¬ordI (ky it) (ky x) < 0)
  (IH:∀(W':World) (q:Value),TrAt W' r q→Calls Tryz.prog 98 #[q,itV it] W' (Makes W' (Tr.ins it r))):Calls Tryz.prog 98 #[p,itV it] w (Makes w (.node true l x (Tr.ins it r))):=by
 obtain⟨W,hW⟩:∃W,w.alloc (.cells #[.int .u64 it.1, .int .i64 it.2.1, .pointer (some ⟨it.2.2,0,none⟩)] tIt)=W:=⟨_,rfl⟩
 have TW:Turned [] w W:=hW ▸ (Turned.refl [] w).alloc _
 have BW:Bx W w.heap.size it:=hW ▸ bx_new w it
 obtain⟨b,pl,pr,rfl,m,hl,hr⟩:=h
 obtain⟨al,rfl⟩:=hl.shape
 obtain⟨ar,rfl⟩:=hr.shape
 have NW:=TW.same m (by simp)
 have HI:=xhd IH
 have Hs:=xhd (hr.later TW)
 have Ho:=xhd (hl.later TW)
 have HT:=xhd TW
 have HN:=xhd NW
 have HB:=xhd BW
 obtain⟨o,hoo⟩:∃o,ordI (ky it) (ky x)=o:=⟨_,rfl⟩
 have HO:=xhd (fun W'=>kord_any (ky it) (ky x) W')
 rw [hoo] at HO ho
 have ho':decide (o < 0)=false:=by simpa using ho
 obtain⟨_,_,_,_,c4,c5⟩:=nd_cells NW
 obtain⟨x1,x2,x3⟩:=x
 obtain⟨i1,i2,i3⟩:=it
 simp only [itV] at hW HO HI c4 c5 ⊢
 clear hoo TW BW NW m hl hr IH ho
 go_enter Tryz.func98,Tryz.ntmps98
 go_wp2_with fail
 go_quiet (fail)
 go_wp2_with fail
 obtain⟨D,hD⟩:∃D,(W.drewN nq).drew=D:=⟨_,rfl⟩
 have TD:Turned [] W D:=hD ▸ ((Turned.refl [] W).drewN nq).drew
 obtain⟨d0,d1,d2,d3,d4,d5⟩:=nd_cells (TD.same HN.out (by simp))
 obtain⟨e0,e1,e2⟩:=bx_cells (TD.same HB.out (by simp))
 simp only at d0 d1 d2 e0 e1 e2
 refine wp_still_tail_at 7 hD (by kernel_rfl) (by kernel_rfl) ?_
 clear hD
 simp only [List.take_succ_cons,List.take_zero,List.drop_succ_cons,List.drop_zero]
 repeat still_step
 refine wpStill_nil ?_
 go_wp2_with fail
 with_reducible refine (HO.out _).mono ?_
 rintro e W2 ⟨rfl,t2⟩
 have T2:=TD.join t2
 obtain⟨d0,d1,d2,d3,d4,d5⟩:=nd_cells (T2.same HN.out (by simp))
 obtain⟨e0,e1,e2⟩:=bx_cells (T2.same HB.out (by simp))
 simp only at d0 d1 d2 e0 e1 e2
 have H2:=xhd T2
 clear t2 TD c4 c5
 go_wp2_with fail
 with_reducible refine (HI.out _ _ (Hs.out.later H2.out)).mono ?_
 rintro e W3 ⟨q,rfl,hq,t3'⟩
 have t3:=H2.out.join t3'
 obtain⟨d0,d1,d2,d3,d4,d5⟩:=nd_cells (t3.same HN.out (by simp))
 simp only at d0 d1 d2
 have G1:=xhd hq
 have HL:=xhd (red_any (Ho.out.later t3) G1.out (x1,x2,x3))
 have H3:=xhd (HT.out.join t3)
 obtain⟨aq,rfl⟩:=hq.shape
 simp only [itV] at HL
 clear hq t3' t3
 go_wp2_with fail
 with_reducible refine HL.out.mono ?_
 rintro e W4 ⟨z,rfl,hz,t4⟩
 have G:=xhd (And.intro hz (H3.out.join t4))
 obtain⟨az,rfl⟩:=hz.shape
 clear hz t4
 go_wp2
 go_ret
 exact⟨_,rfl,G.out⟩
theorem withD_any {w:World} {l r:Tr Nat} {x it:Itm Nat} {p:Value} (h:TrAt w (.node false l x r) p) (ho:¬ordI (ky it) (ky x) < 0)
  (IH:∀(W':World) (q:Value),TrAt W' r q→Calls Tryz.prog 98 #[q,itV it] W' (Makes W' (Tr.ins it r))):Calls Tryz.prog 98 #[p,itV it] w (Makes w (Tr.bal l x (Tr.ins it r))):=by
 obtain⟨W,hW⟩:∃W,w.alloc (.cells #[.int .u64 it.1, .int .i64 it.2.1, .pointer (some ⟨it.2.2,0,none⟩)] tIt)=W:=⟨_,rfl⟩
 have TW:Turned [] w W:=hW ▸ (Turned.refl [] w).alloc _
 have BW:Bx W w.heap.size it:=hW ▸ bx_new w it
 obtain⟨b,pl,pr,rfl,m,hl,hr⟩:=h
 obtain⟨al,rfl⟩:=hl.shape
 obtain⟨ar,rfl⟩:=hr.shape
 have NW:=TW.same m (by simp)
 have HI:=xhd IH
 have Hs:=xhd (hr.later TW)
 have Ho:=xhd (hl.later TW)
 have HT:=xhd TW
 have HN:=xhd NW
 have HB:=xhd BW
 obtain⟨o,hoo⟩:∃o,ordI (ky it) (ky x)=o:=⟨_,rfl⟩
 have HO:=xhd (fun W'=>kord_any (ky it) (ky x) W')
 rw [hoo] at HO ho
 have ho':decide (o < 0)=false:=by simpa using ho
 obtain⟨_,_,_,_,c4,c5⟩:=nd_cells NW
 obtain⟨x1,x2,x3⟩:=x
 obtain⟨i1,i2,i3⟩:=it
 simp only [itV] at hW HO HI c4 c5 ⊢
 clear hoo TW BW NW m hl hr IH ho
 go_enter Tryz.func98,Tryz.ntmps98
 go_wp2_with fail
 go_quiet (fail)
 go_wp2_with fail
 obtain⟨D,hD⟩:∃D,(W.drewN nq).drew=D:=⟨_,rfl⟩
 have TD:Turned [] W D:=hD ▸ ((Turned.refl [] W).drewN nq).drew
 obtain⟨d0,d1,d2,d3,d4,d5⟩:=nd_cells (TD.same HN.out (by simp))
 obtain⟨e0,e1,e2⟩:=bx_cells (TD.same HB.out (by simp))
 simp only at d0 d1 d2 e0 e1 e2
 refine wp_still_tail_at 7 hD (by kernel_rfl) (by kernel_rfl) ?_
 clear hD
 simp only [List.take_succ_cons,List.take_zero,List.drop_succ_cons,List.drop_zero]
 repeat still_step
 refine wpStill_nil ?_
 go_wp2_with fail
 with_reducible refine (HO.out _).mono ?_
 rintro e W2 ⟨rfl,t2⟩
 have T2:=TD.join t2
 obtain⟨d0,d1,d2,d3,d4,d5⟩:=nd_cells (T2.same HN.out (by simp))
 obtain⟨e0,e1,e2⟩:=bx_cells (T2.same HB.out (by simp))
 simp only at d0 d1 d2 e0 e1 e2
 have H2:=xhd T2
 clear t2 TD c4 c5
 go_wp2_with fail
 with_reducible refine (HI.out _ _ (Hs.out.later H2.out)).mono ?_
 rintro e W3 ⟨q,rfl,hq,t3'⟩
 have t3:=H2.out.join t3'
 obtain⟨d0,d1,d2,d3,d4,d5⟩:=nd_cells (t3.same HN.out (by simp))
 simp only at d0 d1 d2
 have G1:=xhd hq
 have HL:=xhd (bal_any (Ho.out.later t3) G1.out (x1,x2,x3))
 have H3:=xhd (HT.out.join t3)
 obtain⟨aq,rfl⟩:=hq.shape
 simp only [itV] at HL
 clear hq t3' t3
 go_wp2_with fail
 with_reducible refine HL.out.mono ?_
 rintro e W4 ⟨z,rfl,hz,t4⟩
 have G:=xhd (And.intro hz (H3.out.join t4))
 obtain⟨az,rfl⟩:=hz.shape
 clear hz t4
 go_wp2
 go_ret
 exact⟨_,rfl,G.out⟩
theorem with_any (it:Itm Nat):∀(t:Tr Nat) (w:World) (p:Value),TrAt w t p→Calls Tryz.prog 98 #[p,itV it] w (Makes w (Tr.ins it t))
 | .nil,_,_,h=>withN_any h it
 | .node c l x r,w,p,h=>by
   have il:=fun W' q hq=>with_any it l W' q hq
   have ir:=fun W' q hq=>with_any it r W' q hq
   by_cases ho:ordI (ky it) (ky x) < 0
   ·cases c
    ·rw [show Tr.ins it (.node false l x r)=Tr.bal (Tr.ins it l) x r by simp [Tr.ins,ho]]
     exact withB_any h ho il
    ·rw [show Tr.ins it (.node true l x r)= .node true (Tr.ins it l) x r by simp [Tr.ins,ho]]
     exact withA_any h ho il
   ·cases c
    ·rw [show Tr.ins it (.node false l x r)=Tr.bal l x (Tr.ins it r) by simp [Tr.ins,ho]]
     exact withD_any h ho ir
    ·rw [show Tr.ins it (.node true l x r)= .node true l x (Tr.ins it r) by simp [Tr.ins,ho]]
     exact withC_any h ho ir
end Go.Proofs.YtfmciiffcmfagaaGreat
