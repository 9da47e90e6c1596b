/-
  balance.
  leftShort, rightShort: their ways (made by gen_rb.py).
  leftShort, rightShort.
-/
import Derived.Test.YtfmciiffcmfagaaGreatZAM
import Derived.Test.YtfmciiffcmfagaaGreatZAl
set_option maxRecDepth 100000
set_option maxHeartbeats 25600000
namespace Go.Proofs.YtfmciiffcmfagaaGreat
open Go.RowKit
theorem red_node {t:Tr Nat} (h:t.isR=true):∃a x b,t= .node true a x b:=by
 cases t with
 |nil=>simp [Tr.isR] at h
 |node c a x b=>cases c;simp [Tr.isR] at h;exact⟨a,x,b,rfl⟩
theorem not_red {t:Tr Nat} (h:t.isR=false):t= .nil∨∃a x b,t= .node false a x b:=by
 cases t with
 |nil=>exact .inl rfl
 |node c a x b=>cases c;exact .inr ⟨a,x,b,rfl⟩;simp [Tr.isR] at h
theorem bal_A {l r:Tr Nat} {x:Itm Nat} (h:l.isR=true) (g:r.isR=true):l.bal x r= .node true l.root x r.root:=by
 obtain⟨a,y,b,rfl⟩:=red_node h
 obtain⟨c,z,d,rfl⟩:=red_node g
 rfl
theorem bal_B {ll lr r:Tr Nat} {x y:Itm Nat} (h:ll.isR=true) (g:r.isR=false):(Tr.node true ll y lr).bal x r= .node true ll.root y (.node false lr x r):=by
 obtain⟨a,z,b,rfl⟩:=red_node h
 rcases not_red g with rfl|⟨c,u,d,rfl⟩<;>rfl
theorem bal_C {ll a b r:Tr Nat} {x y z:Itm Nat} (h:ll.isR=false) (g:r.isR=false):(Tr.node true ll y (.node true a z b)).bal x r= .node true (.node false ll y a) z (.node false b x r):=by
 rcases not_red h with rfl|⟨p,v,q,rfl⟩<;>rcases not_red g with rfl|⟨c,u,d,rfl⟩<;>rfl
theorem bal_D {l rl rr:Tr Nat} {x y:Itm Nat} (h:l.isR=false) (g:rr.isR=true):l.bal x (Tr.node true rl y rr)= .node true (.node false l x rl) y rr.root:=by
 obtain⟨a,z,b,rfl⟩:=red_node g
 rcases not_red h with rfl|⟨c,u,d,rfl⟩<;>rfl
theorem bal_E {l a b rr:Tr Nat} {x y z:Itm Nat} (h:l.isR=false) (g:rr.isR=false):l.bal x (Tr.node true (.node true a z b) y rr)= .node true (.node false l x a) z (.node false b y rr):=by
 rcases not_red h with rfl|⟨p,v,q,rfl⟩<;>rcases not_red g with rfl|⟨c,u,d,rfl⟩<;>rfl
theorem bal_F {ll lr r:Tr Nat} {x y:Itm Nat} (h:ll.isR=false) (k:lr.isR=false) (g:r.isR=false):(Tr.node true ll y lr).bal x r= .node false (.node true ll y lr) x r:=by
 rcases not_red h with rfl|⟨p,v,q,rfl⟩<;>rcases not_red k with rfl|⟨p',v',q',rfl⟩<;>rcases not_red g with rfl|⟨c,u,d,rfl⟩<;>rfl
theorem bal_G {l r:Tr Nat} {x:Itm Nat} (h:l.isR=false) (g:r.isR=false):l.bal x r= .node false l x r:=by
 rcases not_red h with rfl|⟨p,v,q,rfl⟩<;>rcases not_red g with rfl|⟨c,u,d,rfl⟩<;>rfl
theorem bal_H {l rl rr:Tr Nat} {x y:Itm Nat} (h:l.isR=false) (k:rl.isR=false) (g:rr.isR=false):l.bal x (Tr.node true rl y rr)= .node false l x (.node true rl y rr):=by
 rcases not_red h with rfl|⟨p,v,q,rfl⟩<;>rcases not_red k with rfl|⟨p',v',q',rfl⟩<;>rcases not_red g with rfl|⟨c,u,d,rfl⟩<;>rfl
theorem bal_any {w:World} {l r:Tr Nat} {pl pr:Value} (hl:TrAt w l pl) (hr:TrAt w r pr) (x:Itm Nat):
  Calls Tryz.prog 113 #[pl,itV x,pr] w (Makes w (l.bal x r)):=by
 by_cases h:l.isR=true
 ·by_cases g:r.isR=true
  ·rw [bal_A h g]
   exact balA_any hl hr x h g
  ·have g':r.isR=false:=by simpa using g
   obtain⟨ll,y,lr,rfl⟩:=red_node h
   by_cases hll:ll.isR=true
   ·rw [bal_B hll g']
    exact balB_any hl hr x hll g'
   ·have hll':ll.isR=false:=by simpa using hll
    by_cases hlr:lr.isR=true
    ·obtain⟨a,z,b,rfl⟩:=red_node hlr
     rw [bal_C hll' g']
     exact balC_any hl hr x hll' g'
    ·have hlr':lr.isR=false:=by simpa using hlr
     rw [bal_F hll' hlr' g']
     exact balF_any hl hr x hll' hlr' g'
 ·have h':l.isR=false:=by simpa using h
  by_cases g:r.isR=true
  ·obtain⟨rl,y,rr,rfl⟩:=red_node g
   by_cases hrr:rr.isR=true
   ·rw [bal_D h' hrr]
    exact balD_any hl hr x h' hrr
   ·have hrr':rr.isR=false:=by simpa using hrr
    by_cases hrl:rl.isR=true
    ·obtain⟨a,z,b,rfl⟩:=red_node hrl
     rw [bal_E h' hrr']
     exact balE_any hl hr x h' hrr'
    ·have hrl':rl.isR=false:=by simpa using hrl
     rw [bal_H h' hrl' hrr']
     exact balH_any hl hr x h' hrl' hrr'
  ·have g':r.isR=false:=by simpa using g
   rw [bal_G h' g']
   exact balG_any hl hr x h' g'
theorem lshA_any {w:World} {l:Tr Nat} {r:Tr Nat} {pl pr:Value} (hl:TrAt w l pl) (hr:TrAt w r pr) (x:Itm Nat) (cl:l.isR=true):
  Calls Tryz.prog 105 #[pl,itV x,pr] w (Makes w (.node true l.root x r)):=by
 obtain⟨W,hW⟩:∃W,w.alloc (.cells #[.int .u64 x.1, .int .i64 x.2.1, .pointer (some ⟨x.2.2,0,none⟩)] tIt)=W:=⟨_,rfl⟩
 have TW:Turned [] w W:=hW ▸ (Turned.refl [] w).alloc _
 have BW:Bx W w.heap.size x:=hW ▸ bx_new w x
 have Rl:=xhd (isRed_is (hl.later TW) cl)
 have Kl:=xhd (hl.later TW)
 have Kr:=xhd (hr.later TW)
 obtain⟨al,rfl⟩:=hl.shape
 obtain⟨ar,rfl⟩:=hr.shape
 have HS:Hid (∀w',Turned [] W w'→w'.cell? ⟨w.heap.size,0,none⟩=some (.int .u64 x.1)∧w'.cell? ⟨w.heap.size,1,none⟩=some (.int .i64 x.2.1)∧w'.cell? ⟨w.heap.size,2,none⟩=some (.pointer (some ⟨x.2.2,0,none⟩))∧Turned [] W w'):=by
  intro w' ht
  obtain⟨x0,x1,x2⟩:=bx_cells (ht.same BW (by simp))
  exact⟨x0,x1,x2,ht⟩
 have HT:=xhd TW
 obtain⟨x1,x2,x3⟩:=x
 simp only [itV] at hW HS ⊢
 clear TW BW hl hr cl
 obtain⟨d0,d1,d2,dt⟩:=HS.out _ (Turned.refl [] W)
 go_enter Tryz.func105,Tryz.ntmps105
 repeat (go_wp2_with fail;first|(with_reducible refine Rl.out.mono ?_;rintro e w1 ⟨rfl,rfl⟩))
 go_wp2_with fail
 obtain⟨e0,e1,e2,et⟩:=HS.out _ (Turned.refl [] W).drew
 go_region_held3 (fun w'=>w'.cell? ⟨w.heap.size,0,none⟩=some (.int .u64 x1)∧w'.cell? ⟨w.heap.size,1,none⟩=some (.int .i64 x2)∧w'.cell? ⟨w.heap.size,2,none⟩=some (.pointer (some ⟨x3,0,none⟩))∧Turned [] W w')
  (first|exact⟨f0,f1,f2,ft⟩ |exact⟨e0,e1,e2,et⟩)
  (first
    |(go_at_call 96
      first
       |(with_reducible refine (asRoot_any (Kl.out.later (by first|exact ft|exact et))).mono ?_
         rintro e wa ⟨zg1,rfl,yg1,tg1⟩
         have g1:=xhd yg1
         try have g2:=xhd (g2.out.later tg1)
         obtain⟨f0,f1,f2,ft⟩:=HS.out _ (Turned.join (by first|exact ft|exact et) tg1)
         obtain⟨vg1,rfl⟩:=yg1.shape
         clear yg1 tg1))
    |(go_at_call 104
      first
       |(with_reducible refine (red_any (g1.out) (Kr.out.later (by first|exact ft|exact et)) (x1,x2,x3)).mono ?_
         rintro e wa ⟨zg2,rfl,yg2,tg2⟩
         have g2:=xhd yg2
         obtain⟨f0,f1,f2,ft⟩:=HS.out _ (Turned.join (by first|exact ft|exact et) tg2)
         have G:=xhd (And.intro yg2 (HT.out.join ft))
         obtain⟨vg2,rfl⟩:=yg2.shape
         clear yg2 tg2)))
 all_goals
  go_wp2
  go_ret
  exact⟨_,rfl,G.out⟩
theorem lshB_any {w:World} {l:Tr Nat} {rl:Tr Nat} {rr:Tr Nat} {y:Itm Nat} {pl pr:Value} (hl:TrAt w l pl) (hr:TrAt w (.node false rl y rr) pr) (x:Itm Nat) (cl:l.isR=false):
  Calls Tryz.prog 105 #[pl,itV x,pr] w (Makes w (l.bal x (.node true rl y rr))):=by
 obtain⟨W,hW⟩:∃W,w.alloc (.cells #[.int .u64 x.1, .int .i64 x.2.1, .pointer (some ⟨x.2.2,0,none⟩)] tIt)=W:=⟨_,rfl⟩
 have TW:Turned [] w W:=hW ▸ (Turned.refl [] w).alloc _
 have BW:Bx W w.heap.size x:=hW ▸ bx_new w x
 have Rl:=xhd (isRed_is (hl.later TW) cl)
 have Kl:=xhd (hl.later TW)
 have Rr:=xhd (isRed_is (b:=false) (hr.later TW) rfl)
 have Br:=xhd (isBlack_is (b:=true) (hr.later TW) rfl)
 have Kr:=xhd (hr.later TW)
 obtain⟨br,prl,prr,rfl,mr,hrl,hrr⟩:=hr
 have Nr:=TW.same mr (by simp)
 have Krl:=xhd (hrl.later TW)
 have Krr:=xhd (hrr.later TW)
 obtain⟨al,rfl⟩:=hl.shape
 obtain⟨arl,rfl⟩:=hrl.shape
 obtain⟨arr,rfl⟩:=hrr.shape
 have HS:Hid (∀w',Turned [] W w'→w'.cell? ⟨w.heap.size,0,none⟩=some (.int .u64 x.1)∧w'.cell? ⟨w.heap.size,1,none⟩=some (.int .i64 x.2.1)∧w'.cell? ⟨w.heap.size,2,none⟩=some (.pointer (some ⟨x.2.2,0,none⟩))∧w'.cell? ⟨br,0,none⟩=some (.int .u64 y.1)∧w'.cell? ⟨br,1,none⟩=some (.int .i64 y.2.1)∧w'.cell? ⟨br,2,none⟩=some (.pointer (some ⟨y.2.2,0,none⟩))∧w'.cell? ⟨br,3,none⟩=some (.bool false)∧w'.cell? ⟨br,4,none⟩=some (.pointer arl)∧w'.cell? ⟨br,5,none⟩=some (.pointer arr)∧Turned [] W w'):=by
  intro w' ht
  obtain⟨x0,x1,x2⟩:=bx_cells (ht.same BW (by simp))
  obtain⟨rq0,rq1,rq2,rq3,rq4,rq5⟩:=nd_cells (ht.same Nr (by simp))
  exact⟨x0,x1,x2,rq0,rq1,rq2,rq3,rq4,rq5,ht⟩
 have HT:=xhd TW
 obtain⟨x1,x2,x3⟩:=x
 obtain⟨y1,y2,y3⟩:=y
 simp only [itV] at hW HS ⊢
 clear TW BW mr Nr hl hrl hrr cl
 obtain⟨d0,d1,d2,d3,d4,d5,d6,d7,d8,dt⟩:=HS.out _ (Turned.refl [] W)
 go_enter Tryz.func105,Tryz.ntmps105
 repeat (go_wp2_with fail;first|(with_reducible refine Rl.out.mono ?_;rintro e w1 ⟨rfl,rfl⟩) |(with_reducible refine Rr.out.mono ?_;rintro e w1 ⟨rfl,rfl⟩) |(with_reducible refine Br.out.mono ?_;rintro e w1 ⟨rfl,rfl⟩))
 go_wp2_with fail
 obtain⟨e0,e1,e2,e3,e4,e5,e6,e7,e8,et⟩:=HS.out _ (Turned.refl [] W).drew
 go_region_held3 (fun w'=>w'.cell? ⟨w.heap.size,0,none⟩=some (.int .u64 x1)∧w'.cell? ⟨w.heap.size,1,none⟩=some (.int .i64 x2)∧w'.cell? ⟨w.heap.size,2,none⟩=some (.pointer (some ⟨x3,0,none⟩))∧w'.cell? ⟨br,0,none⟩=some (.int .u64 y1)∧w'.cell? ⟨br,1,none⟩=some (.int .i64 y2)∧w'.cell? ⟨br,2,none⟩=some (.pointer (some ⟨y3,0,none⟩))∧w'.cell? ⟨br,3,none⟩=some (.bool false)∧w'.cell? ⟨br,4,none⟩=some (.pointer arl)∧w'.cell? ⟨br,5,none⟩=some (.pointer arr)∧Turned [] W w')
  (first|exact⟨f0,f1,f2,f3,f4,f5,f6,f7,f8,ft⟩ |exact⟨e0,e1,e2,e3,e4,e5,e6,e7,e8,et⟩)
  (first
    |(go_at_call 115
      first
       |(with_reducible refine (reddened_any (Kr.out.later (by first|exact ft|exact et))).mono ?_
         rintro e wa ⟨zg1,rfl,yg1,tg1⟩
         have g1:=xhd yg1
         try have g2:=xhd (g2.out.later tg1)
         obtain⟨f0,f1,f2,f3,f4,f5,f6,f7,f8,ft⟩:=HS.out _ (Turned.join (by first|exact ft|exact et) tg1)
         obtain⟨vg1,rfl⟩:=yg1.shape
         clear yg1 tg1))
    |(go_at_call 113
      first
       |(with_reducible refine (bal_any (Kl.out.later (by first|exact ft|exact et)) (g1.out) (x1,x2,x3)).mono ?_
         rintro e wa ⟨zg2,rfl,yg2,tg2⟩
         have g2:=xhd yg2
         obtain⟨f0,f1,f2,f3,f4,f5,f6,f7,f8,ft⟩:=HS.out _ (Turned.join (by first|exact ft|exact et) tg2)
         have G:=xhd (And.intro yg2 (HT.out.join ft))
         obtain⟨vg2,rfl⟩:=yg2.shape
         clear yg2 tg2)))
 all_goals
  go_wp2
  go_ret
  exact⟨_,rfl,G.out⟩
theorem lshC_any {w:World} {l:Tr Nat} {ma:Tr Nat} {mb:Tr Nat} {da:Tr Nat} {db:Tr Nat} {y:Itm Nat} {z:Itm Nat} {u:Itm Nat} {cm:Bool} {cd:Bool} {pl pr:Value} (hl:TrAt w l pl) (hr:TrAt w (.node true (.node cm ma z mb) y (.node cd da u db)) pr) (x:Itm Nat) (cl:l.isR=false):
  Calls Tryz.prog 105 #[pl,itV x,pr] w (Makes w (.node true (.node false l x ma) z (mb.bal y (.node true da u db)))):=by
 obtain⟨W,hW⟩:∃W,w.alloc (.cells #[.int .u64 x.1, .int .i64 x.2.1, .pointer (some ⟨x.2.2,0,none⟩)] tIt)=W:=⟨_,rfl⟩
 have TW:Turned [] w W:=hW ▸ (Turned.refl [] w).alloc _
 have BW:Bx W w.heap.size x:=hW ▸ bx_new w x
 have Rl:=xhd (isRed_is (hl.later TW) cl)
 have Kl:=xhd (hl.later TW)
 have Rr:=xhd (isRed_is (b:=true) (hr.later TW) rfl)
 have Br:=xhd (isBlack_is (b:=false) (hr.later TW) rfl)
 have Kr:=xhd (hr.later TW)
 obtain⟨br,pm,pd,rfl,mr,hm,hd⟩:=hr
 have Nr:=TW.same mr (by simp)
 have Km:=xhd (hm.later TW)
 obtain⟨bm,pma,pmb,rfl,mm,hma,hmb⟩:=hm
 have Nm:=TW.same mm (by simp)
 have Kma:=xhd (hma.later TW)
 have Kmb:=xhd (hmb.later TW)
 have Kd:=xhd (hd.later TW)
 obtain⟨bd,pda,pdb,rfl,md,hda,hdb⟩:=hd
 have Nd:=TW.same md (by simp)
 have Kda:=xhd (hda.later TW)
 have Kdb:=xhd (hdb.later TW)
 obtain⟨al,rfl⟩:=hl.shape
 obtain⟨ama,rfl⟩:=hma.shape
 obtain⟨amb,rfl⟩:=hmb.shape
 obtain⟨ada,rfl⟩:=hda.shape
 obtain⟨adb,rfl⟩:=hdb.shape
 have HS:Hid (∀w',Turned [] W w'→w'.cell? ⟨w.heap.size,0,none⟩=some (.int .u64 x.1)∧w'.cell? ⟨w.heap.size,1,none⟩=some (.int .i64 x.2.1)∧w'.cell? ⟨w.heap.size,2,none⟩=some (.pointer (some ⟨x.2.2,0,none⟩))∧w'.cell? ⟨br,0,none⟩=some (.int .u64 y.1)∧w'.cell? ⟨br,1,none⟩=some (.int .i64 y.2.1)∧w'.cell? ⟨br,2,none⟩=some (.pointer (some ⟨y.2.2,0,none⟩))∧w'.cell? ⟨br,3,none⟩=some (.bool true)∧w'.cell? ⟨br,4,none⟩=some (.pointer (some ⟨bm,0,none⟩))∧w'.cell? ⟨br,5,none⟩=some (.pointer (some ⟨bd,0,none⟩))∧w'.cell? ⟨bm,0,none⟩=some (.int .u64 z.1)∧w'.cell? ⟨bm,1,none⟩=some (.int .i64 z.2.1)∧w'.cell? ⟨bm,2,none⟩=some (.pointer (some ⟨z.2.2,0,none⟩))∧w'.cell? ⟨bm,3,none⟩=some (.bool cm)∧w'.cell? ⟨bm,4,none⟩=some (.pointer ama)∧w'.cell? ⟨bm,5,none⟩=some (.pointer amb)∧w'.cell? ⟨bd,0,none⟩=some (.int .u64 u.1)∧w'.cell? ⟨bd,1,none⟩=some (.int .i64 u.2.1)∧w'.cell? ⟨bd,2,none⟩=some (.pointer (some ⟨u.2.2,0,none⟩))∧w'.cell? ⟨bd,3,none⟩=some (.bool cd)∧w'.cell? ⟨bd,4,none⟩=some (.pointer ada)∧w'.cell? ⟨bd,5,none⟩=some (.pointer adb)∧Turned [] W w'):=by
  intro w' ht
  obtain⟨x0,x1,x2⟩:=bx_cells (ht.same BW (by simp))
  obtain⟨rq0,rq1,rq2,rq3,rq4,rq5⟩:=nd_cells (ht.same Nr (by simp))
  obtain⟨mq0,mq1,mq2,mq3,mq4,mq5⟩:=nd_cells (ht.same Nm (by simp))
  obtain⟨dq0,dq1,dq2,dq3,dq4,dq5⟩:=nd_cells (ht.same Nd (by simp))
  exact⟨x0,x1,x2,rq0,rq1,rq2,rq3,rq4,rq5,mq0,mq1,mq2,mq3,mq4,mq5,dq0,dq1,dq2,dq3,dq4,dq5,ht⟩
 have HT:=xhd TW
 obtain⟨x1,x2,x3⟩:=x
 obtain⟨y1,y2,y3⟩:=y
 obtain⟨z1,z2,z3⟩:=z
 obtain⟨u1,u2,u3⟩:=u
 simp only [itV] at hW HS ⊢
 clear TW BW mr mm md Nr Nm Nd hl hma hmb hda hdb cl
 obtain⟨d0,d1,d2,d3,d4,d5,d6,d7,d8,d9,d10,d11,d12,d13,d14,d15,d16,d17,d18,d19,d20,dt⟩:=HS.out _ (Turned.refl [] W)
 go_enter Tryz.func105,Tryz.ntmps105
 repeat (go_wp2_with fail;first|(with_reducible refine Rl.out.mono ?_;rintro e w1 ⟨rfl,rfl⟩) |(with_reducible refine Rr.out.mono ?_;rintro e w1 ⟨rfl,rfl⟩) |(with_reducible refine Br.out.mono ?_;rintro e w1 ⟨rfl,rfl⟩))
 go_wp2_with fail
 obtain⟨e0,e1,e2,e3,e4,e5,e6,e7,e8,e9,e10,e11,e12,e13,e14,e15,e16,e17,e18,e19,e20,et⟩:=HS.out _ (Turned.refl [] W).drew
 go_region_held3 (fun w'=>w'.cell? ⟨w.heap.size,0,none⟩=some (.int .u64 x1)∧w'.cell? ⟨w.heap.size,1,none⟩=some (.int .i64 x2)∧w'.cell? ⟨w.heap.size,2,none⟩=some (.pointer (some ⟨x3,0,none⟩))∧w'.cell? ⟨br,0,none⟩=some (.int .u64 y1)∧w'.cell? ⟨br,1,none⟩=some (.int .i64 y2)∧w'.cell? ⟨br,2,none⟩=some (.pointer (some ⟨y3,0,none⟩))∧w'.cell? ⟨br,3,none⟩=some (.bool true)∧w'.cell? ⟨br,4,none⟩=some (.pointer (some ⟨bm,0,none⟩))∧w'.cell? ⟨br,5,none⟩=some (.pointer (some ⟨bd,0,none⟩))∧w'.cell? ⟨bm,0,none⟩=some (.int .u64 z1)∧w'.cell? ⟨bm,1,none⟩=some (.int .i64 z2)∧w'.cell? ⟨bm,2,none⟩=some (.pointer (some ⟨z3,0,none⟩))∧w'.cell? ⟨bm,3,none⟩=some (.bool cm)∧w'.cell? ⟨bm,4,none⟩=some (.pointer ama)∧w'.cell? ⟨bm,5,none⟩=some (.pointer amb)∧w'.cell? ⟨bd,0,none⟩=some (.int .u64 u1)∧w'.cell? ⟨bd,1,none⟩=some (.int .i64 u2)∧w'.cell? ⟨bd,2,none⟩=some (.pointer (some ⟨u3,0,none⟩))∧w'.cell? ⟨bd,3,none⟩=some (.bool cd)∧w'.cell? ⟨bd,4,none⟩=some (.pointer ada)∧w'.cell? ⟨bd,5,none⟩=some (.pointer adb)∧Turned [] W w')
  (first|exact⟨f0,f1,f2,f3,f4,f5,f6,f7,f8,f9,f10,f11,f12,f13,f14,f15,f16,f17,f18,f19,f20,ft⟩ |exact⟨e0,e1,e2,e3,e4,e5,e6,e7,e8,e9,e10,e11,e12,e13,e14,e15,e16,e17,e18,e19,e20,et⟩)
  (first
    |(go_at_call 109
      first
       |(with_reducible refine (black_any (Kl.out.later (by first|exact ft|exact et)) (Kma.out.later (by first|exact ft|exact et)) (x1,x2,x3)).mono ?_
         rintro e wa ⟨zg1,rfl,yg1,tg1⟩
         have g1:=xhd yg1
         try have g2:=xhd (g2.out.later tg1)
         try have g3:=xhd (g3.out.later tg1)
         try have g4:=xhd (g4.out.later tg1)
         obtain⟨f0,f1,f2,f3,f4,f5,f6,f7,f8,f9,f10,f11,f12,f13,f14,f15,f16,f17,f18,f19,f20,ft⟩:=HS.out _ (Turned.join (by first|exact ft|exact et) tg1)
         obtain⟨vg1,rfl⟩:=yg1.shape
         clear yg1 tg1))
    |(go_at_call 115
      first
       |(with_reducible refine (reddened_any (Kd.out.later (by first|exact ft|exact et))).mono ?_
         rintro e wa ⟨zg2,rfl,yg2,tg2⟩
         have g2:=xhd yg2
         try have g1:=xhd (g1.out.later tg2)
         try have g3:=xhd (g3.out.later tg2)
         try have g4:=xhd (g4.out.later tg2)
         obtain⟨f0,f1,f2,f3,f4,f5,f6,f7,f8,f9,f10,f11,f12,f13,f14,f15,f16,f17,f18,f19,f20,ft⟩:=HS.out _ (Turned.join (by first|exact ft|exact et) tg2)
         obtain⟨vg2,rfl⟩:=yg2.shape
         clear yg2 tg2))
    |(go_at_call 113
      first
       |(with_reducible refine (bal_any (Kmb.out.later (by first|exact ft|exact et)) (g2.out) (y1,y2,y3)).mono ?_
         rintro e wa ⟨zg3,rfl,yg3,tg3⟩
         have g3:=xhd yg3
         try have g1:=xhd (g1.out.later tg3)
         try have g2:=xhd (g2.out.later tg3)
         try have g4:=xhd (g4.out.later tg3)
         obtain⟨f0,f1,f2,f3,f4,f5,f6,f7,f8,f9,f10,f11,f12,f13,f14,f15,f16,f17,f18,f19,f20,ft⟩:=HS.out _ (Turned.join (by first|exact ft|exact et) tg3)
         obtain⟨vg3,rfl⟩:=yg3.shape
         clear yg3 tg3))
    |(go_at_call 104
      first
       |(with_reducible refine (red_any (g1.out) (g3.out) (z1,z2,z3)).mono ?_
         rintro e wa ⟨zg4,rfl,yg4,tg4⟩
         have g4:=xhd yg4
         obtain⟨f0,f1,f2,f3,f4,f5,f6,f7,f8,f9,f10,f11,f12,f13,f14,f15,f16,f17,f18,f19,f20,ft⟩:=HS.out _ (Turned.join (by first|exact ft|exact et) tg4)
         have G:=xhd (And.intro yg4 (HT.out.join ft))
         obtain⟨vg4,rfl⟩:=yg4.shape
         clear yg4 tg4)))
 all_goals
  go_wp2
  go_ret
  exact⟨_,rfl,G.out⟩
theorem rshA_any {w:World} {l:Tr Nat} {r:Tr Nat} {pl pr:Value} (hl:TrAt w l pl) (hr:TrAt w r pr) (x:Itm Nat) (cr:r.isR=true):
  Calls Tryz.prog 106 #[pl,itV x,pr] w (Makes w (.node true l x r.root)):=by
 obtain⟨W,hW⟩:∃W,w.alloc (.cells #[.int .u64 x.1, .int .i64 x.2.1, .pointer (some ⟨x.2.2,0,none⟩)] tIt)=W:=⟨_,rfl⟩
 have TW:Turned [] w W:=hW ▸ (Turned.refl [] w).alloc _
 have BW:Bx W w.heap.size x:=hW ▸ bx_new w x
 have Kl:=xhd (hl.later TW)
 have Rr:=xhd (isRed_is (hr.later TW) cr)
 have Kr:=xhd (hr.later TW)
 obtain⟨al,rfl⟩:=hl.shape
 obtain⟨ar,rfl⟩:=hr.shape
 have HS:Hid (∀w',Turned [] W w'→w'.cell? ⟨w.heap.size,0,none⟩=some (.int .u64 x.1)∧w'.cell? ⟨w.heap.size,1,none⟩=some (.int .i64 x.2.1)∧w'.cell? ⟨w.heap.size,2,none⟩=some (.pointer (some ⟨x.2.2,0,none⟩))∧Turned [] W w'):=by
  intro w' ht
  obtain⟨x0,x1,x2⟩:=bx_cells (ht.same BW (by simp))
  exact⟨x0,x1,x2,ht⟩
 have HT:=xhd TW
 obtain⟨x1,x2,x3⟩:=x
 simp only [itV] at hW HS ⊢
 clear TW BW hl hr cr
 obtain⟨d0,d1,d2,dt⟩:=HS.out _ (Turned.refl [] W)
 go_enter Tryz.func106,Tryz.ntmps106
 repeat (go_wp2_with fail;first|(with_reducible refine Rr.out.mono ?_;rintro e w1 ⟨rfl,rfl⟩))
 go_wp2_with fail
 obtain⟨e0,e1,e2,et⟩:=HS.out _ (Turned.refl [] W).drew
 go_region_held3 (fun w'=>w'.cell? ⟨w.heap.size,0,none⟩=some (.int .u64 x1)∧w'.cell? ⟨w.heap.size,1,none⟩=some (.int .i64 x2)∧w'.cell? ⟨w.heap.size,2,none⟩=some (.pointer (some ⟨x3,0,none⟩))∧Turned [] W w')
  (first|exact⟨f0,f1,f2,ft⟩ |exact⟨e0,e1,e2,et⟩)
  (first
    |(go_at_call 96
      first
       |(with_reducible refine (asRoot_any (Kr.out.later (by first|exact ft|exact et))).mono ?_
         rintro e wa ⟨zg1,rfl,yg1,tg1⟩
         have g1:=xhd yg1
         try have g2:=xhd (g2.out.later tg1)
         obtain⟨f0,f1,f2,ft⟩:=HS.out _ (Turned.join (by first|exact ft|exact et) tg1)
         obtain⟨vg1,rfl⟩:=yg1.shape
         clear yg1 tg1))
    |(go_at_call 104
      first
       |(with_reducible refine (red_any (Kl.out.later (by first|exact ft|exact et)) (g1.out) (x1,x2,x3)).mono ?_
         rintro e wa ⟨zg2,rfl,yg2,tg2⟩
         have g2:=xhd yg2
         obtain⟨f0,f1,f2,ft⟩:=HS.out _ (Turned.join (by first|exact ft|exact et) tg2)
         have G:=xhd (And.intro yg2 (HT.out.join ft))
         obtain⟨vg2,rfl⟩:=yg2.shape
         clear yg2 tg2)))
 all_goals
  go_wp2
  go_ret
  exact⟨_,rfl,G.out⟩
theorem rshB_any {w:World} {ll:Tr Nat} {lr:Tr Nat} {r:Tr Nat} {y:Itm Nat} {pl pr:Value} (hl:TrAt w (.node false ll y lr) pl) (hr:TrAt w r pr) (x:Itm Nat) (cr:r.isR=false):
  Calls Tryz.prog 106 #[pl,itV x,pr] w (Makes w ((Tr.node true ll y lr).bal x r)):=by
 obtain⟨W,hW⟩:∃W,w.alloc (.cells #[.int .u64 x.1, .int .i64 x.2.1, .pointer (some ⟨x.2.2,0,none⟩)] tIt)=W:=⟨_,rfl⟩
 have TW:Turned [] w W:=hW ▸ (Turned.refl [] w).alloc _
 have BW:Bx W w.heap.size x:=hW ▸ bx_new w x
 have Rl:=xhd (isRed_is (b:=false) (hl.later TW) rfl)
 have Bl:=xhd (isBlack_is (b:=true) (hl.later TW) rfl)
 have Kl:=xhd (hl.later TW)
 obtain⟨bl,pll,plr,rfl,ml,hll,hlr⟩:=hl
 have Nl:=TW.same ml (by simp)
 have Kll:=xhd (hll.later TW)
 have Klr:=xhd (hlr.later TW)
 have Rr:=xhd (isRed_is (hr.later TW) cr)
 have Kr:=xhd (hr.later TW)
 obtain⟨all,rfl⟩:=hll.shape
 obtain⟨alr,rfl⟩:=hlr.shape
 obtain⟨ar,rfl⟩:=hr.shape
 have HS:Hid (∀w',Turned [] W w'→w'.cell? ⟨w.heap.size,0,none⟩=some (.int .u64 x.1)∧w'.cell? ⟨w.heap.size,1,none⟩=some (.int .i64 x.2.1)∧w'.cell? ⟨w.heap.size,2,none⟩=some (.pointer (some ⟨x.2.2,0,none⟩))∧w'.cell? ⟨bl,0,none⟩=some (.int .u64 y.1)∧w'.cell? ⟨bl,1,none⟩=some (.int .i64 y.2.1)∧w'.cell? ⟨bl,2,none⟩=some (.pointer (some ⟨y.2.2,0,none⟩))∧w'.cell? ⟨bl,3,none⟩=some (.bool false)∧w'.cell? ⟨bl,4,none⟩=some (.pointer all)∧w'.cell? ⟨bl,5,none⟩=some (.pointer alr)∧Turned [] W w'):=by
  intro w' ht
  obtain⟨x0,x1,x2⟩:=bx_cells (ht.same BW (by simp))
  obtain⟨lq0,lq1,lq2,lq3,lq4,lq5⟩:=nd_cells (ht.same Nl (by simp))
  exact⟨x0,x1,x2,lq0,lq1,lq2,lq3,lq4,lq5,ht⟩
 have HT:=xhd TW
 obtain⟨x1,x2,x3⟩:=x
 obtain⟨y1,y2,y3⟩:=y
 simp only [itV] at hW HS ⊢
 clear TW BW ml Nl hll hlr hr cr
 obtain⟨d0,d1,d2,d3,d4,d5,d6,d7,d8,dt⟩:=HS.out _ (Turned.refl [] W)
 go_enter Tryz.func106,Tryz.ntmps106
 repeat (go_wp2_with fail;first|(with_reducible refine Rl.out.mono ?_;rintro e w1 ⟨rfl,rfl⟩) |(with_reducible refine Bl.out.mono ?_;rintro e w1 ⟨rfl,rfl⟩) |(with_reducible refine Rr.out.mono ?_;rintro e w1 ⟨rfl,rfl⟩))
 go_wp2_with fail
 obtain⟨e0,e1,e2,e3,e4,e5,e6,e7,e8,et⟩:=HS.out _ (Turned.refl [] W).drew
 go_region_held3 (fun w'=>w'.cell? ⟨w.heap.size,0,none⟩=some (.int .u64 x1)∧w'.cell? ⟨w.heap.size,1,none⟩=some (.int .i64 x2)∧w'.cell? ⟨w.heap.size,2,none⟩=some (.pointer (some ⟨x3,0,none⟩))∧w'.cell? ⟨bl,0,none⟩=some (.int .u64 y1)∧w'.cell? ⟨bl,1,none⟩=some (.int .i64 y2)∧w'.cell? ⟨bl,2,none⟩=some (.pointer (some ⟨y3,0,none⟩))∧w'.cell? ⟨bl,3,none⟩=some (.bool false)∧w'.cell? ⟨bl,4,none⟩=some (.pointer all)∧w'.cell? ⟨bl,5,none⟩=some (.pointer alr)∧Turned [] W w')
  (first|exact⟨f0,f1,f2,f3,f4,f5,f6,f7,f8,ft⟩ |exact⟨e0,e1,e2,e3,e4,e5,e6,e7,e8,et⟩)
  (first
    |(go_at_call 115
      first
       |(with_reducible refine (reddened_any (Kl.out.later (by first|exact ft|exact et))).mono ?_
         rintro e wa ⟨zg1,rfl,yg1,tg1⟩
         have g1:=xhd yg1
         try have g2:=xhd (g2.out.later tg1)
         obtain⟨f0,f1,f2,f3,f4,f5,f6,f7,f8,ft⟩:=HS.out _ (Turned.join (by first|exact ft|exact et) tg1)
         obtain⟨vg1,rfl⟩:=yg1.shape
         clear yg1 tg1))
    |(go_at_call 113
      first
       |(with_reducible refine (bal_any (g1.out) (Kr.out.later (by first|exact ft|exact et)) (x1,x2,x3)).mono ?_
         rintro e wa ⟨zg2,rfl,yg2,tg2⟩
         have g2:=xhd yg2
         obtain⟨f0,f1,f2,f3,f4,f5,f6,f7,f8,ft⟩:=HS.out _ (Turned.join (by first|exact ft|exact et) tg2)
         have G:=xhd (And.intro yg2 (HT.out.join ft))
         obtain⟨vg2,rfl⟩:=yg2.shape
         clear yg2 tg2)))
 all_goals
  go_wp2
  go_ret
  exact⟨_,rfl,G.out⟩
theorem rshC_any {w:World} {da:Tr Nat} {db:Tr Nat} {ma:Tr Nat} {mb:Tr Nat} {r:Tr Nat} {y:Itm Nat} {u:Itm Nat} {z:Itm Nat} {cd:Bool} {cm:Bool} {pl pr:Value} (hl:TrAt w (.node true (.node cd da u db) y (.node cm ma z mb)) pl) (hr:TrAt w r pr) (x:Itm Nat) (cr:r.isR=false):
  Calls Tryz.prog 106 #[pl,itV x,pr] w (Makes w (.node true ((Tr.node true da u db).bal y ma) z (.node false mb x r))):=by
 obtain⟨W,hW⟩:∃W,w.alloc (.cells #[.int .u64 x.1, .int .i64 x.2.1, .pointer (some ⟨x.2.2,0,none⟩)] tIt)=W:=⟨_,rfl⟩
 have TW:Turned [] w W:=hW ▸ (Turned.refl [] w).alloc _
 have BW:Bx W w.heap.size x:=hW ▸ bx_new w x
 have Rl:=xhd (isRed_is (b:=true) (hl.later TW) rfl)
 have Bl:=xhd (isBlack_is (b:=false) (hl.later TW) rfl)
 have Kl:=xhd (hl.later TW)
 obtain⟨bl,pd,pm,rfl,ml,hd,hm⟩:=hl
 have Nl:=TW.same ml (by simp)
 have Kd:=xhd (hd.later TW)
 obtain⟨bd,pda,pdb,rfl,md,hda,hdb⟩:=hd
 have Nd:=TW.same md (by simp)
 have Kda:=xhd (hda.later TW)
 have Kdb:=xhd (hdb.later TW)
 have Km:=xhd (hm.later TW)
 obtain⟨bm,pma,pmb,rfl,mm,hma,hmb⟩:=hm
 have Nm:=TW.same mm (by simp)
 have Kma:=xhd (hma.later TW)
 have Kmb:=xhd (hmb.later TW)
 have Rr:=xhd (isRed_is (hr.later TW) cr)
 have Kr:=xhd (hr.later TW)
 obtain⟨ada,rfl⟩:=hda.shape
 obtain⟨adb,rfl⟩:=hdb.shape
 obtain⟨ama,rfl⟩:=hma.shape
 obtain⟨amb,rfl⟩:=hmb.shape
 obtain⟨ar,rfl⟩:=hr.shape
 have HS:Hid (∀w',Turned [] W w'→w'.cell? ⟨w.heap.size,0,none⟩=some (.int .u64 x.1)∧w'.cell? ⟨w.heap.size,1,none⟩=some (.int .i64 x.2.1)∧w'.cell? ⟨w.heap.size,2,none⟩=some (.pointer (some ⟨x.2.2,0,none⟩))∧w'.cell? ⟨bl,0,none⟩=some (.int .u64 y.1)∧w'.cell? ⟨bl,1,none⟩=some (.int .i64 y.2.1)∧w'.cell? ⟨bl,2,none⟩=some (.pointer (some ⟨y.2.2,0,none⟩))∧w'.cell? ⟨bl,3,none⟩=some (.bool true)∧w'.cell? ⟨bl,4,none⟩=some (.pointer (some ⟨bd,0,none⟩))∧w'.cell? ⟨bl,5,none⟩=some (.pointer (some ⟨bm,0,none⟩))∧w'.cell? ⟨bd,0,none⟩=some (.int .u64 u.1)∧w'.cell? ⟨bd,1,none⟩=some (.int .i64 u.2.1)∧w'.cell? ⟨bd,2,none⟩=some (.pointer (some ⟨u.2.2,0,none⟩))∧w'.cell? ⟨bd,3,none⟩=some (.bool cd)∧w'.cell? ⟨bd,4,none⟩=some (.pointer ada)∧w'.cell? ⟨bd,5,none⟩=some (.pointer adb)∧w'.cell? ⟨bm,0,none⟩=some (.int .u64 z.1)∧w'.cell? ⟨bm,1,none⟩=some (.int .i64 z.2.1)∧w'.cell? ⟨bm,2,none⟩=some (.pointer (some ⟨z.2.2,0,none⟩))∧w'.cell? ⟨bm,3,none⟩=some (.bool cm)∧w'.cell? ⟨bm,4,none⟩=some (.pointer ama)∧w'.cell? ⟨bm,5,none⟩=some (.pointer amb)∧Turned [] W w'):=by
  intro w' ht
  obtain⟨x0,x1,x2⟩:=bx_cells (ht.same BW (by simp))
  obtain⟨lq0,lq1,lq2,lq3,lq4,lq5⟩:=nd_cells (ht.same Nl (by simp))
  obtain⟨dq0,dq1,dq2,dq3,dq4,dq5⟩:=nd_cells (ht.same Nd (by simp))
  obtain⟨mq0,mq1,mq2,mq3,mq4,mq5⟩:=nd_cells (ht.same Nm (by simp))
  exact⟨x0,x1,x2,lq0,lq1,lq2,lq3,lq4,lq5,dq0,dq1,dq2,dq3,dq4,dq5,mq0,mq1,mq2,mq3,mq4,mq5,ht⟩
 have HT:=xhd TW
 obtain⟨x1,x2,x3⟩:=x
 obtain⟨y1,y2,y3⟩:=y
 obtain⟨u1,u2,u3⟩:=u
 obtain⟨z1,z2,z3⟩:=z
 simp only [itV] at hW HS ⊢
 clear TW BW ml md mm Nl Nd Nm hda hdb hma hmb hr cr
 obtain⟨d0,d1,d2,d3,d4,d5,d6,d7,d8,d9,d10,d11,d12,d13,d14,d15,d16,d17,d18,d19,d20,dt⟩:=HS.out _ (Turned.refl [] W)
 go_enter Tryz.func106,Tryz.ntmps106
 repeat (go_wp2_with fail;first|(with_reducible refine Rl.out.mono ?_;rintro e w1 ⟨rfl,rfl⟩) |(with_reducible refine Bl.out.mono ?_;rintro e w1 ⟨rfl,rfl⟩) |(with_reducible refine Rr.out.mono ?_;rintro e w1 ⟨rfl,rfl⟩))
 go_wp2_with fail
 obtain⟨e0,e1,e2,e3,e4,e5,e6,e7,e8,e9,e10,e11,e12,e13,e14,e15,e16,e17,e18,e19,e20,et⟩:=HS.out _ (Turned.refl [] W).drew
 go_region_held3 (fun w'=>w'.cell? ⟨w.heap.size,0,none⟩=some (.int .u64 x1)∧w'.cell? ⟨w.heap.size,1,none⟩=some (.int .i64 x2)∧w'.cell? ⟨w.heap.size,2,none⟩=some (.pointer (some ⟨x3,0,none⟩))∧w'.cell? ⟨bl,0,none⟩=some (.int .u64 y1)∧w'.cell? ⟨bl,1,none⟩=some (.int .i64 y2)∧w'.cell? ⟨bl,2,none⟩=some (.pointer (some ⟨y3,0,none⟩))∧w'.cell? ⟨bl,3,none⟩=some (.bool true)∧w'.cell? ⟨bl,4,none⟩=some (.pointer (some ⟨bd,0,none⟩))∧w'.cell? ⟨bl,5,none⟩=some (.pointer (some ⟨bm,0,none⟩))∧w'.cell? ⟨bd,0,none⟩=some (.int .u64 u1)∧w'.cell? ⟨bd,1,none⟩=some (.int .i64 u2)∧w'.cell? ⟨bd,2,none⟩=some (.pointer (some ⟨u3,0,none⟩))∧w'.cell? ⟨bd,3,none⟩=some (.bool cd)∧w'.cell? ⟨bd,4,none⟩=some (.pointer ada)∧w'.cell? ⟨bd,5,none⟩=some (.pointer adb)∧w'.cell? ⟨bm,0,none⟩=some (.int .u64 z1)∧w'.cell? ⟨bm,1,none⟩=some (.int .i64 z2)∧w'.cell? ⟨bm,2,none⟩=some (.pointer (some ⟨z3,0,none⟩))∧w'.cell? ⟨bm,3,none⟩=some (.bool cm)∧w'.cell? ⟨bm,4,none⟩=some (.pointer ama)∧w'.cell? ⟨bm,5,none⟩=some (.pointer amb)∧Turned [] W w')
  (first|exact⟨f0,f1,f2,f3,f4,f5,f6,f7,f8,f9,f10,f11,f12,f13,f14,f15,f16,f17,f18,f19,f20,ft⟩ |exact⟨e0,e1,e2,e3,e4,e5,e6,e7,e8,e9,e10,e11,e12,e13,e14,e15,e16,e17,e18,e19,e20,et⟩)
  (first
    |(go_at_call 115
      first
       |(with_reducible refine (reddened_any (Kd.out.later (by first|exact ft|exact et))).mono ?_
         rintro e wa ⟨zg1,rfl,yg1,tg1⟩
         have g1:=xhd yg1
         try have g2:=xhd (g2.out.later tg1)
         try have g3:=xhd (g3.out.later tg1)
         try have g4:=xhd (g4.out.later tg1)
         obtain⟨f0,f1,f2,f3,f4,f5,f6,f7,f8,f9,f10,f11,f12,f13,f14,f15,f16,f17,f18,f19,f20,ft⟩:=HS.out _ (Turned.join (by first|exact ft|exact et) tg1)
         obtain⟨vg1,rfl⟩:=yg1.shape
         clear yg1 tg1))
    |(go_at_call 113
      first
       |(with_reducible refine (bal_any (g1.out) (Kma.out.later (by first|exact ft|exact et)) (y1,y2,y3)).mono ?_
         rintro e wa ⟨zg2,rfl,yg2,tg2⟩
         have g2:=xhd yg2
         try have g1:=xhd (g1.out.later tg2)
         try have g3:=xhd (g3.out.later tg2)
         try have g4:=xhd (g4.out.later tg2)
         obtain⟨f0,f1,f2,f3,f4,f5,f6,f7,f8,f9,f10,f11,f12,f13,f14,f15,f16,f17,f18,f19,f20,ft⟩:=HS.out _ (Turned.join (by first|exact ft|exact et) tg2)
         obtain⟨vg2,rfl⟩:=yg2.shape
         clear yg2 tg2))
    |(go_at_call 109
      first
       |(with_reducible refine (black_any (Kmb.out.later (by first|exact ft|exact et)) (Kr.out.later (by first|exact ft|exact et)) (x1,x2,x3)).mono ?_
         rintro e wa ⟨zg3,rfl,yg3,tg3⟩
         have g3:=xhd yg3
         try have g1:=xhd (g1.out.later tg3)
         try have g2:=xhd (g2.out.later tg3)
         try have g4:=xhd (g4.out.later tg3)
         obtain⟨f0,f1,f2,f3,f4,f5,f6,f7,f8,f9,f10,f11,f12,f13,f14,f15,f16,f17,f18,f19,f20,ft⟩:=HS.out _ (Turned.join (by first|exact ft|exact et) tg3)
         obtain⟨vg3,rfl⟩:=yg3.shape
         clear yg3 tg3))
    |(go_at_call 104
      first
       |(with_reducible refine (red_any (g2.out) (g3.out) (z1,z2,z3)).mono ?_
         rintro e wa ⟨zg4,rfl,yg4,tg4⟩
         have g4:=xhd yg4
         obtain⟨f0,f1,f2,f3,f4,f5,f6,f7,f8,f9,f10,f11,f12,f13,f14,f15,f16,f17,f18,f19,f20,ft⟩:=HS.out _ (Turned.join (by first|exact ft|exact et) tg4)
         have G:=xhd (And.intro yg4 (HT.out.join ft))
         obtain⟨vg4,rfl⟩:=yg4.shape
         clear yg4 tg4)))
 all_goals
  go_wp2
  go_ret
  exact⟨_,rfl,G.out⟩
theorem lsh_A {l r:Tr Nat} {x:Itm Nat} (h:l.isR=true):l.lsh x r= .node true l.root x r:=by
 obtain⟨a,y,b,rfl⟩:=red_node h
 rfl
theorem lsh_B {l b c:Tr Nat} {x y:Itm Nat} (h:l.isR=false):l.lsh x (.node false b y c)=l.bal x (.node true b y c):=by
 rcases not_red h with rfl|⟨p,v,q,rfl⟩<;>rfl
theorem lsh_C {l b c d:Tr Nat} {cb:Bool} {x y z:Itm Nat} (h:l.isR=false):l.lsh x (.node true (.node cb b y c) z d)= .node true (.node false l x b) y (c.bal z d.redd):=by
 rcases not_red h with rfl|⟨p,v,q,rfl⟩<;>rfl
theorem rsh_A {l r:Tr Nat} {x:Itm Nat} (h:r.isR=true):l.rsh x r= .node true l x r.root:=by
 obtain⟨a,y,b,rfl⟩:=red_node h
 cases l with
 |nil=>rfl
 |node c p y q=>
  cases c
  ·rfl
  ·cases q<;>rfl
theorem rsh_B {r a b:Tr Nat} {x y:Itm Nat} (h:r.isR=false):(Tr.node false a y b).rsh x r=(Tr.node true a y b).bal x r:=by
 rcases not_red h with rfl|⟨p,v,q,rfl⟩<;>rfl
theorem rsh_C {r a b c:Tr Nat} {cb:Bool} {x y z:Itm Nat} (h:r.isR=false):(Tr.node true a y (.node cb b z c)).rsh x r= .node true (a.redd.bal y b) z (.node false c x r):=by
 rcases not_red h with rfl|⟨p,v,q,rfl⟩<;>rfl
theorem lshK_any {w:World} {l b c:Tr Nat} {y:Itm Nat} {pl pr:Value} (hl:TrAt w l pl) (hr:TrAt w (.node false b y c) pr) (x:Itm Nat):
  Calls Tryz.prog 105 #[pl,itV x,pr] w (Makes w (l.lsh x (.node false b y c))):=by
 by_cases h:l.isR=true
 ·rw [lsh_A h]
  exact lshA_any hl hr x h
 ·have h':l.isR=false:=by simpa using h
  rw [lsh_B h']
  exact lshB_any hl hr x h'
theorem lsh_any {w:World} {l r:Tr Nat} {pl pr:Value} (hl:TrAt w l pl) (hr:TrAt w r pr) (x:Itm Nat) (gr:r.HH) (h:l.bh+1=r.bh) (kr:r.CC):
  Calls Tryz.prog 105 #[pl,itV x,pr] w (Makes w (l.lsh x r)):=by
 by_cases hl':l.isR=true
 ·rw [lsh_A hl']
  exact lshA_any hl hr x hl'
 ·have hn:l.isR=false:=by simpa using hl'
  cases r with
  |nil=>simp [Tr.bh] at h
  |node c b y d=>
   cases c
   ·exact lshK_any hl hr x
   ·obtain⟨g1,g2,g3⟩:=gr
    simp [Tr.bh] at h
    cases b with
    |nil=>simp [Tr.bh] at h
    |node cb b1 z b2=>
     cases d with
     |nil=>rw [g3] at h;simp [Tr.bh] at h
     |node cd d1 u d2=>
      rw [lsh_C hn]
      exact lshC_any hl hr x hn
theorem rsh_any {w:World} {l r:Tr Nat} {pl pr:Value} (hl:TrAt w l pl) (hr:TrAt w r pr) (x:Itm Nat) (gl:l.HH) (h:r.bh+1=l.bh) (kl:l.CC):
  Calls Tryz.prog 106 #[pl,itV x,pr] w (Makes w (l.rsh x r)):=by
 by_cases hr':r.isR=true
 ·rw [rsh_A hr']
  exact rshA_any hl hr x hr'
 ·have hn:r.isR=false:=by simpa using hr'
  cases l with
  |nil=>simp [Tr.bh] at h
  |node c d y b=>
   cases c
   ·rw [rsh_B hn]
    exact rshB_any hl hr x hn
   ·obtain⟨g1,g2,g3⟩:=gl
    simp [Tr.bh] at h
    cases d with
    |nil=>simp [Tr.bh] at h
    |node cd d1 u d2=>
     cases b with
     |nil=>rw [g3] at h;simp [Tr.bh] at h
     |node cb b1 z b2=>
      rw [rsh_C hn]
      exact rshC_any hl hr x hn
end Go.Proofs.YtfmciiffcmfagaaGreat
