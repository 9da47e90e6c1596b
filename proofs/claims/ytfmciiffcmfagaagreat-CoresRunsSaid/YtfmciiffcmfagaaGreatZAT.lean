/-
  walk, From, All: what a loop over a tree of tasks hands out. (Made by gen_walk.py.)
  A queue as two trees: all tasks by their numbers, the ready ones by V and number. No program.
-/
import Derived.Test.YtfmciiffcmfagaaGreatZAQ
import Derived.Test.YtfmciiffcmfagaaGreatZAF
import Derived.Test.YtfmciiffcmfagaaGreatZAJ
import Derived.Test.YtfmciiffcmfagaaGreatZAB
import Derived.RangeFuncBound
import Derived.RangeFuncBox
import Derived.RangeFuncCalls
import Derived.RangeFuncLeaves
import Derived.RangeFuncNested
import Derived.TacticsIn
import Derived.OwnWalkIn
import Derived.StillTailTactics
import Derived.Test.YtfmciiffcmfagaaGreatZAD
import Derived.Test.YtfmciiffcmfagaaGreatZAS
import Derived.Test.YtfmciiffcmfagaaGreatZAl
set_option maxRecDepth 100000
set_option maxHeartbeats 25600000
namespace Go.Proofs.YtfmciiffcmfagaaGreat
open Go.RowKit
attribute [local go_sem] Oper.semAt_some
abbrev tKy:TypeId:=84
abbrev encK (x:Itm Nat):Array Value:= #[.agg #[.int .u64 x.1, .int .i64 x.2.1], .pointer (some ⟨x.2.2,0,none⟩)]
def TrIn (Y:List Nat) (w:World):Tr Nat→Value→Prop
 | .nil,p=>p= .pointer none
 | .node c l x r,p=>∃b pl pr,p= .pointer (some ⟨b,0,none⟩)∧b ∈ Y∧w.heap[b]?=some (.cells (ndCells x c pl pr) tNd (0,0))∧TrIn Y w l pl∧TrIn Y w r pr
theorem TrIn.mono {Y Z:List Nat} {w:World} (h:∀k ∈ Y,k ∈ Z):∀ {t:Tr Nat} {p:Value},TrIn Y w t p→TrIn Z w t p
 | .nil,_,e=>e
 | .node _ _ _ _,_,⟨b,pl,pr,e1,e2,e3,e4,e5⟩=>⟨b,pl,pr,e1,h _ e2,e3,e4.mono h,e5.mono h⟩
theorem TrIn.same {Y:List Nat} {w w':World} (h:SameAt Y w w'):∀ {t:Tr Nat} {p:Value},TrIn Y w t p→TrIn Y w' t p
 | .nil,_,e=>e
 | .node _ _ _ _,_,⟨b,pl,pr,e1,e2,e3,e4,e5⟩=>⟨b,pl,pr,e1,e2,(h b e2).trans e3,e4.same h,e5.same h⟩
theorem TrIn.at_ {Y:List Nat} {w:World} :∀ {t:Tr Nat} {p:Value},TrIn Y w t p→TrAt w t p
 | .nil,_,e=>e
 | .node _ _ _ _,_,⟨b,pl,pr,e1,_,e3,e4,e5⟩=>⟨b,pl,pr,e1,e3,e4.at_,e5.at_⟩
theorem TrAt.blocks {w:World} :∀ {t:Tr Nat} {p:Value},TrAt w t p→∃Y:List Nat,TrIn Y w t p∧∀k ∈ Y,∃cs,w.heap[k]?=some (.cells cs tNd (0,0))
 | .nil,_,e=>⟨[],e,fun k hk=>by simp at hk⟩
 | .node _ _ _ _,_,⟨b,pl,pr,e1,e2,e3,e4⟩=>by
   obtain⟨Y,y1,y2⟩:=TrAt.blocks e3
   obtain⟨Z,z1,z2⟩:=TrAt.blocks e4
   refine⟨b::(Y++Z),⟨b,pl,pr,e1,by simp,e2,y1.mono (fun k hk=>by simp [hk]),z1.mono (fun k hk=>by simp [hk])⟩,fun k hk=>?_⟩
   rcases List.mem_cons.1 hk with rfl|hk
   ·exact⟨_,e2⟩
   ·rcases List.mem_append.1 hk with hk|hk
    ·exact y2 k hk
    ·exact z2 k hk
def KeyOk (x:Itm Nat):Prop:=0≤x.1∧ -9223372036854775808≤x.2.1
theorem key_low {x:Itm Nat} (h:KeyOk x):¬ordI (ky x) (0, -9223372036854775808) < 0:=by
 have:=h.1
 have:=h.2
 rw [ord_neg]
 dsimp only
 omega
section
variable {l m:Nat} {L:List (Itm Nat)} {J Jx:List (Itm Nat)→List Nat→World→Prop} {Y:List Nat} {W0:World}
def WalkP (J Jx:List (Itm Nat)→List Nat→World→Prop) (L pre:List (Itm Nat)) (t:Tr Nat) (Z:List Nat) (W:World) (e:Ending) (W':World):Prop:=
 SameAt Z W W'∧W.heap.size≤W'.heap.size∧
  ((e= .returned (.bool true)∧∃Z',J (pre++t.list) Z' W'∧(∀k ∈ Z,k ∈ Z')∧∀k ∈ Z',k < W'.heap.size)∨(e= .returned (.bool false)∧∃xs Z',xs <+:L∧Jx xs Z' W'))
theorem walk_any (hJ:∀xs Z Z' A B,J xs Z A→Turned Z A B→Newer Z A.heap.size Z'→(∀k ∈ Z',k < B.heap.size)→J xs Z' B)
  (hJY:∀xs Z A,J xs Z A→SameAt Y W0 A) (hJxY:∀xs Z A,Jx xs Z A→SameAt Y W0 A) (hL:∀x ∈ L,KeyOk x)
  (hYi:∀pre x Z A,J pre Z A→(pre++[x]) <+:L→YieldAt Fence.wide m Tryz.prog l (encK x) A fun e B=>
    SameAt Z A B∧A.heap.size≤B.heap.size∧((e= .returned (.bool true)∧J (pre++[x]) Z B)∨(e= .returned (.bool false)∧Jx (pre++[x]) Z B))):
  ∀(t:Tr Nat) (p:Value) (pre:List (Itm Nat)) (Z:List Nat) (W:World),TrIn Y W0 t p→J pre Z W→(∀k ∈ Z,k < W.heap.size)→(pre++t.list) <+:L→
   Calls Tryz.prog 103 #[p, .agg #[.int .u64 0, .int .i64 (-9223372036854775808)], .func (.yield l) #[] #[]] W (WalkP J Jx L pre t Z W)
 | .nil,p,pre,Z,W,hT,hj,hz,hp=>by
   obtain rfl:p= .pointer none:=hT
   have TW:Turned [] W (W.alloc (.cells #[.int .u64 0, .int .i64 (-9223372036854775808)] tKy)):=(Turned.refl [] W).alloc _
   have R:Hid (WalkP J Jx L pre .nil Z W (.returned (.bool true)) (W.alloc (.cells #[.int .u64 0, .int .i64 (-9223372036854775808)] tKy))):=xhd ⟨fun k hk=>TW.block k (hz k hk) (by simp),TW.size, .inl ⟨rfl,Z,by
    simp only [Tr.list,List.append_nil]
    exact hJ _ _ _ _ _ hj (TW.mono (fun k hk=>by simp at hk)) (Newer.refl _ _) (fun k hk=>Nat.lt_of_lt_of_le (hz k hk) TW.size),fun _ h=>h,fun k hk=>Nat.lt_of_lt_of_le (hz k hk) TW.size⟩⟩
   clear hJ hJY hJxY hYi hj hz hp TW hL
   go_enter Tryz.func103,Tryz.ntmps103
   go_wp2
   go_ret
   exact R.out
 | .node c tl x tr,p,pre,Z,W,hT,hj,hz,hp=>by
   obtain⟨b,pl,pr,rfl,hb,h2,h3,h4⟩:=hT
   obtain⟨W1,hW1⟩:∃W1,W.alloc (.cells #[.int .u64 0, .int .i64 (-9223372036854775808)] tKy)=W1:=⟨_,rfl⟩
   have T1:Turned [] W W1:=hW1 ▸ (Turned.refl [] W).alloc _
   have B1:W1.heap[W.heap.size]?=some (.cells #[.int .u64 0, .int .i64 (-9223372036854775808)] tKy (0,0)):=hW1 ▸ heap_alloc_new W _
   have hS0:=hJY _ _ _ hj
   have hnd:∀V,SameAt Y W0 V→V.cell? ⟨b,0,none⟩=some (.int .u64 x.1)∧V.cell? ⟨b,1,none⟩=some (.int .i64 x.2.1)∧V.cell? ⟨b,2,none⟩=some (.pointer (some ⟨x.2.2,0,none⟩))∧V.cell? ⟨b,4,none⟩=some pl∧V.cell? ⟨b,5,none⟩=some pr:=by
    intro V hV
    obtain⟨d0,d1,d2,_,d4,d5⟩:=nd_cells ((hV b hb).trans h2)
    exact⟨d0,d1,d2,d4,d5⟩
   have hbx:∀V:World,V.heap[W.heap.size]?=W1.heap[W.heap.size]?→V.cell? ⟨W.heap.size,0,none⟩=some (.int .u64 0)∧V.cell? ⟨W.heap.size,1,none⟩=some (.int .i64 (-9223372036854775808)):=by
    intro V hV
    have e:=hV.trans B1
    exact⟨by simp [World.cell?,e],by simp [World.cell?,e]⟩
   have hz1:∀k ∈ W.heap.size::Z,k < W1.heap.size:=fun k hk=>by
    have:=lt_of_block B1
    rcases List.mem_cons.1 hk with rfl|hk
    ·exact this
    ·have:=hz k hk;omega
   have hj1:J pre (W.heap.size::Z) W1:=hJ _ _ _ _ _ hj (T1.mono (fun k hk=>by simp at hk)) (fun k hk=>by
    rcases List.mem_cons.1 hk with rfl|hk
    ·exact .inr (Nat.le_refl _)
    ·exact .inl hk) hz1
   have HJT:Hid (∀V,Turned [] W1 V→J pre (W.heap.size::Z) V∧∀k ∈ W.heap.size::Z,k < V.heap.size):=xhd fun V tV=>
    have hs:∀k ∈ W.heap.size::Z,k < V.heap.size:=fun k hk=>Nat.lt_of_lt_of_le (hz1 k hk) tV.size
    ⟨hJ _ _ _ _ _ hj1 (tV.mono (fun k hk=>by simp at hk)) (Newer.refl _ _) hs,hs⟩
   have HSV:Hid (∀V,SameAt Y W0 V→V.heap[W.heap.size]?=W1.heap[W.heap.size]?→V.cell? ⟨b,0,none⟩=some (.int .u64 x.1)∧V.cell? ⟨b,1,none⟩=some (.int .i64 x.2.1)∧V.cell? ⟨b,2,none⟩=some (.pointer (some ⟨x.2.2,0,none⟩))∧V.cell? ⟨b,4,none⟩=some pl∧V.cell? ⟨b,5,none⟩=some pr∧V.cell? ⟨W.heap.size,0,none⟩=some (.int .u64 0)∧V.cell? ⟨W.heap.size,1,none⟩=some (.int .i64 (-9223372036854775808))):=xhd fun V h1 h2=>by
    obtain⟨d0,d1,d2,d4,d5⟩:=hnd V h1
    obtain⟨e0,e1⟩:=hbx V h2
    exact⟨d0,d1,d2,d4,d5,e0,e1⟩
   obtain⟨apl,hpl⟩:=h3.at_.shape
   obtain⟨apr,hpr⟩:=h4.at_.shape
   have hx:KeyOk x:=hL x (hp.subset (by simp [Tr.list]))
   have HO:=xhd (fun V=>kord_any (ky x) (0, -9223372036854775808) V)
   obtain⟨D,hD⟩:∃D,W1.drew=D:=⟨_,rfl⟩
   have TD:Turned [] W1 D:=hD ▸ (Turned.refl [] W1).drew
   obtain⟨s0,s1,s2,s4,s5,s6,s7⟩:=HSV.out D (hJY _ _ _ (HJT.out D TD).1) (TD.block _ (lt_of_block B1) (by simp))
   obtain⟨x1,x2,x3⟩:=x
   obtain⟨o,hoo⟩:∃o,ordI (ky (x1,x2,x3)) (0, -9223372036854775808)=o:=⟨_,rfl⟩
   have ho:¬o < 0:=hoo ▸ key_low hx
   have hd:decide (o < 0)=false:=by simpa using ho
   rw [hoo] at HO
   simp only at HO s0 s1 s2
   have HTD:=xhd TD
   have HHD:=xhd hd
   subst hpl
   subst hpr
   have GD0:∀V,Turned [] W1 V→SameAt (W.heap.size::Z) W1 V∧W1.heap.size≤V.heap.size:=fun V tV=>⟨fun k hk=>tV.block k (hz1 k hk) (by simp),tV.size⟩
   have HFIN:Hid (∀V,SameAt (W.heap.size::Z) W1 V→W1.heap.size≤V.heap.size→SameAt Z W V∧W.heap.size≤V.heap.size):=xhd fun V hs hl=>
    ⟨fun k hk=>(hs k (List.mem_cons_of_mem _ hk)).trans (T1.block k (hz k hk) (by simp)),Nat.le_trans T1.size hl⟩
   have hp1:(pre++tl.list) <+:L:=by
    obtain⟨r,hr⟩:=hp
    exact⟨(x1,x2,x3)::(tr.list++r),by rw [←hr];simp [Tr.list]⟩
   have hp2:(pre++tl.list++[(x1,x2,x3)]) <+:L:=by
    obtain⟨r,hr⟩:=hp
    exact⟨tr.list++r,by rw [←hr];simp [Tr.list]⟩
   have hp3:(pre++tl.list++[(x1,x2,x3)]++tr.list) <+:L:=by
    obtain⟨r,hr⟩:=hp
    exact⟨r,by rw [←hr];simp [Tr.list]⟩
   have hin:W.heap.size ∈ W.heap.size::Z:=by simp
   have HL:Hid (∀V n,Turned [] W1 V→CallsIn Fence.wide n Tryz.prog 103 #[.pointer apl, .agg #[.int .u64 0, .int .i64 (-9223372036854775808)], .func (.yield l) #[] #[]] V fun e V1=>
     (e= .returned (.bool true)∧∃Z1,(V1.cell? ⟨b,0,none⟩=some (.int .u64 x1)∧V1.cell? ⟨b,1,none⟩=some (.int .i64 x2)∧V1.cell? ⟨b,2,none⟩=some (.pointer (some ⟨x3,0,none⟩))∧V1.cell? ⟨b,4,none⟩=some (.pointer apl)∧V1.cell? ⟨b,5,none⟩=some (.pointer apr)∧V1.cell? ⟨W.heap.size,0,none⟩=some (.int .u64 0)∧V1.cell? ⟨W.heap.size,1,none⟩=some (.int .i64 (-9223372036854775808)))∧J (pre++tl.list) Z1 V1∧(∀k ∈ W.heap.size::Z,k ∈ Z1)∧(∀k ∈ Z1,k < V1.heap.size)∧SameAt (W.heap.size::Z) W1 V1∧W1.heap.size≤V1.heap.size)∨
     (e= .returned (.bool false)∧∃xs Z1,(V1.cell? ⟨b,0,none⟩=some (.int .u64 x1)∧V1.cell? ⟨b,1,none⟩=some (.int .i64 x2)∧V1.cell? ⟨b,2,none⟩=some (.pointer (some ⟨x3,0,none⟩))∧V1.cell? ⟨b,4,none⟩=some (.pointer apl)∧V1.cell? ⟨b,5,none⟩=some (.pointer apr)∧V1.cell? ⟨W.heap.size,0,none⟩=some (.int .u64 0)∧V1.cell? ⟨W.heap.size,1,none⟩=some (.int .i64 (-9223372036854775808)))∧xs <+:L∧Jx xs Z1 V1∧SameAt (W.heap.size::Z) W1 V1∧W1.heap.size≤V1.heap.size)):=xhd fun V n tV=>by
    obtain⟨g1,g2⟩:=GD0 V tV
    refine (callsIn_wide.2 (walk_any hJ hJY hJxY hL hYi tl (.pointer apl) pre (W.heap.size::Z) V h3 (HJT.out V tV).1 (HJT.out V tV).2 hp1)).mono ?_
    rintro e V1 ⟨q1,q2,⟨rfl,Z1,j1,j2,j3⟩ |⟨rfl,xs,Z1,j1,j2⟩⟩
    ·exact .inl ⟨rfl,Z1,HSV.out V1 (hJY _ _ _ j1) ((g1.trans q1) _ hin),j1,j2,j3,g1.trans q1,Nat.le_trans g2 q2⟩
    ·exact .inr ⟨rfl,xs,Z1,HSV.out V1 (hJxY _ _ _ j2) ((g1.trans q1) _ hin),j1,j2,g1.trans q1,Nat.le_trans g2 q2⟩
   have HY:Hid (∀V Z1 n,J (pre++tl.list) Z1 V→(∀k ∈ W.heap.size::Z,k ∈ Z1)→(∀k ∈ Z1,k < V.heap.size)→SameAt (W.heap.size::Z) W1 V→W1.heap.size≤V.heap.size→YieldAt Fence.wide n Tryz.prog l (encK (x1,x2,x3)) V fun e V1=>
     (e= .returned (.bool true)∧(V1.cell? ⟨b,0,none⟩=some (.int .u64 x1)∧V1.cell? ⟨b,1,none⟩=some (.int .i64 x2)∧V1.cell? ⟨b,2,none⟩=some (.pointer (some ⟨x3,0,none⟩))∧V1.cell? ⟨b,4,none⟩=some (.pointer apl)∧V1.cell? ⟨b,5,none⟩=some (.pointer apr)∧V1.cell? ⟨W.heap.size,0,none⟩=some (.int .u64 0)∧V1.cell? ⟨W.heap.size,1,none⟩=some (.int .i64 (-9223372036854775808)))∧J (pre++tl.list++[(x1,x2,x3)]) Z1 V1∧(∀k ∈ W.heap.size::Z,k ∈ Z1)∧(∀k ∈ Z1,k < V1.heap.size)∧SameAt (W.heap.size::Z) W1 V1∧W1.heap.size≤V1.heap.size)∨
     (e= .returned (.bool false)∧(V1.cell? ⟨b,0,none⟩=some (.int .u64 x1)∧V1.cell? ⟨b,1,none⟩=some (.int .i64 x2)∧V1.cell? ⟨b,2,none⟩=some (.pointer (some ⟨x3,0,none⟩))∧V1.cell? ⟨b,4,none⟩=some (.pointer apl)∧V1.cell? ⟨b,5,none⟩=some (.pointer apr)∧V1.cell? ⟨W.heap.size,0,none⟩=some (.int .u64 0)∧V1.cell? ⟨W.heap.size,1,none⟩=some (.int .i64 (-9223372036854775808)))∧Jx (pre++tl.list++[(x1,x2,x3)]) Z1 V1∧SameAt (W.heap.size::Z) W1 V1∧W1.heap.size≤V1.heap.size)):=xhd fun V Z1 n j1 j2 j3 g1 g2=>by
    refine YieldAt.wide (YieldAt.mono (hYi _ _ Z1 V j1 hp2) ?_)
    rintro e V1 ⟨q1,q2,⟨rfl,j4⟩ |⟨rfl,j4⟩⟩
    ·have q3:SameAt (W.heap.size::Z) W1 V1:=g1.trans (fun k hk=>q1 k (j2 k hk))
     exact .inl ⟨rfl,HSV.out V1 (hJY _ _ _ j4) (q3 _ hin),j4,j2,fun k hk=>Nat.lt_of_lt_of_le (j3 k hk) q2,q3,Nat.le_trans g2 q2⟩
    ·have q3:SameAt (W.heap.size::Z) W1 V1:=g1.trans (fun k hk=>q1 k (j2 k hk))
     exact .inr ⟨rfl,HSV.out V1 (hJxY _ _ _ j4) (q3 _ hin),j4,q3,Nat.le_trans g2 q2⟩
   have HR:Hid (∀V Z1 n,J (pre++tl.list++[(x1,x2,x3)]) Z1 V→(∀k ∈ W.heap.size::Z,k ∈ Z1)→(∀k ∈ Z1,k < V.heap.size)→SameAt (W.heap.size::Z) W1 V→W1.heap.size≤V.heap.size→CallsIn Fence.wide n Tryz.prog 103 #[.pointer apr, .agg #[.int .u64 0, .int .i64 (-9223372036854775808)], .func (.yield l) #[] #[]] V fun e V1=>∃bb,e= .returned (.bool bb)∧(V1.cell? ⟨b,0,none⟩=some (.int .u64 x1)∧V1.cell? ⟨b,1,none⟩=some (.int .i64 x2)∧V1.cell? ⟨b,2,none⟩=some (.pointer (some ⟨x3,0,none⟩))∧V1.cell? ⟨b,4,none⟩=some (.pointer apl)∧V1.cell? ⟨b,5,none⟩=some (.pointer apr)∧V1.cell? ⟨W.heap.size,0,none⟩=some (.int .u64 0)∧V1.cell? ⟨W.heap.size,1,none⟩=some (.int .i64 (-9223372036854775808)))∧WalkP J Jx L pre (.node c tl (x1,x2,x3) tr) Z W (.returned (.bool bb)) V1):=xhd fun V Z1 n j1 j2 j3 g1 g2=>by
    refine (callsIn_wide.2 (walk_any hJ hJY hJxY hL hYi tr (.pointer apr) _ Z1 V h4 j1 j3 hp3)).mono ?_
    rintro e V1 ⟨q1,q2,⟨rfl,Z2,k1,k2,k3⟩ |⟨rfl,xs,Z2,k1,k2⟩⟩
    ·have q3:SameAt (W.heap.size::Z) W1 V1:=g1.trans (fun k hk=>q1 k (j2 k hk))
     obtain⟨f1,f2⟩:=HFIN.out V1 q3 (Nat.le_trans g2 q2)
     refine⟨true,rfl,HSV.out V1 (hJY _ _ _ k1) (q3 _ hin),f1,f2, .inl ⟨rfl,Z2,?_,fun k hk=>k2 k (j2 k (List.mem_cons_of_mem _ hk)),k3⟩⟩
     simpa [Tr.list] using k1
    ·have q3:SameAt (W.heap.size::Z) W1 V1:=g1.trans (fun k hk=>q1 k (j2 k hk))
     obtain⟨f1,f2⟩:=HFIN.out V1 q3 (Nat.le_trans g2 q2)
     exact⟨false,rfl,HSV.out V1 (hJxY _ _ _ k2) (q3 _ hin),f1,f2, .inr ⟨rfl,xs,Z2,k1,k2⟩⟩
   have HS1:Hid (∀V,Turned [] W1 V→(V.cell? ⟨b,0,none⟩=some (.int .u64 x1)∧V.cell? ⟨b,1,none⟩=some (.int .i64 x2)∧V.cell? ⟨b,2,none⟩=some (.pointer (some ⟨x3,0,none⟩))∧V.cell? ⟨b,4,none⟩=some (.pointer apl)∧V.cell? ⟨b,5,none⟩=some (.pointer apr)∧V.cell? ⟨W.heap.size,0,none⟩=some (.int .u64 0)∧V.cell? ⟨W.heap.size,1,none⟩=some (.int .i64 (-9223372036854775808)))):=xhd fun V tV=>HSV.out V (hJY _ _ _ (HJT.out V tV).1) ((GD0 V tV).1 _ hin)
   have HX:Hid (∀V xs Z1,SameAt (W.heap.size::Z) W1 V→W1.heap.size≤V.heap.size→xs <+:L→Jx xs Z1 V→WalkP J Jx L pre (.node c tl (x1,x2,x3) tr) Z W (.returned (.bool false)) V):=xhd fun V xs Z1 g1 g2 j1 j2=>
    ⟨(HFIN.out V g1 g2).1,(HFIN.out V g1 g2).2, .inr ⟨rfl,xs,Z1,j1,j2⟩⟩
   have HP2:=xhd hp2
   clear hnd hbx hz1 hj1 hj hz T1 B1 TD hx hoo ho hJ hd hp hp1 hp2 hp3 hin GD0 hYi hJY hJxY hL HSV HJT HFIN hS0 h2 h3 h4 hb
   go_enter Tryz.func103,Tryz.ntmps103
   go_wp2_with fail
   (try rw [hW1])
   refine wp_still_tail_at 6 hD (by kernel_rfl) (by kernel_rfl) ?_
   clear hD
   simp only [List.take_succ_cons,List.take_zero,List.drop_succ_cons,List.drop_zero]
   repeat still_step
   refine wpStill_nil ?_
   go_wp2_with fail
   with_reducible refine (HO.out D).mono ?_
   rintro e V ⟨rfl,t2⟩
   have HT2:=xhd (HTD.out.join t2)
   have hd:=HHD.out
   clear t2 s0 s1 s2 s4 s5 s6 s7
   go_wp2_with fail
   refine (wpIn_wide (n:=20)).1 ?_
   have hmix:Tryz.prog.follows .mixedOrders=true:=by kernel_rfl
   refine wpIn_region_noPanic ?_
   refine wpIn_region_I (fun U=>(U.cell? ⟨b,0,none⟩=some (.int .u64 x1)∧U.cell? ⟨b,1,none⟩=some (.int .i64 x2)∧U.cell? ⟨b,2,none⟩=some (.pointer (some ⟨x3,0,none⟩))∧U.cell? ⟨b,4,none⟩=some (.pointer apl)∧U.cell? ⟨b,5,none⟩=some (.pointer apr)∧U.cell? ⟨W.heap.size,0,none⟩=some (.int .u64 0)∧U.cell? ⟨W.heap.size,1,none⟩=some (.int .i64 (-9223372036854775808)))) hmix (HS1.out _ HT2.out.drew) (fun hS0=>?_)
   have HT3:=xhd HT2.out.drew
   refine wpAnyI_take (i:=0) (v:=?_) rfl (fun _=>trivial) rfl (by kernel_rfl) (by kernel_rfl) (by kernel_rfl) (fun _ _ _ h=>h) (Or.inl ⟨by rfl,?hy⟩) (by assumption) ?_
   case hy=>
    intro w hSw
    (try dsimp only at hSw)
    obtain⟨s0,s1,s2,s4,s5,s6,s7⟩:=hSw
    go_simp
    try with_reducible rfl
   try simp only [xga];try simp only [xgs];try simp only [xgz];try simp only [Act.put];try simp only [xsa];try simp only [xss];try simp only [xsz]
   refine wpAnyI_take (i:=1) (v:=?_) rfl (fun _=>trivial) rfl (by kernel_rfl) (by kernel_rfl) (by kernel_rfl) (fun _ _ _ h=>h) (Or.inl ⟨by rfl,?hy⟩) (by assumption) ?_
   case hy=>
    intro w hSw
    (try dsimp only at hSw)
    obtain⟨s0,s1,s2,s4,s5,s6,s7⟩:=hSw
    go_simp
    try with_reducible rfl
   try simp only [xga];try simp only [xgs];try simp only [xgz];try simp only [Act.put];try simp only [xsa];try simp only [xss];try simp only [xsz]
   refine wpAnyI_take (i:=2) (v:=?_) rfl (fun _=>trivial) rfl (by kernel_rfl) (by kernel_rfl) (by kernel_rfl) (fun _ _ _ h=>h) (Or.inl ⟨by rfl,?hy⟩) (by assumption) ?_
   case hy=>
    intro w hSw
    (try dsimp only at hSw)
    obtain⟨s0,s1,s2,s4,s5,s6,s7⟩:=hSw
    go_simp
    try with_reducible rfl
   try simp only [xga];try simp only [xgs];try simp only [xgz];try simp only [Act.put];try simp only [xsa];try simp only [xss];try simp only [xsz]
   refine wpAnyI_take (i:=5) (v:=?_) rfl (fun _=>trivial) rfl (by kernel_rfl) (by kernel_rfl) (by kernel_rfl) (fun _ _ _ h=>h) (Or.inl ⟨by rfl,?hy⟩) (by assumption) ?_
   case hy=>
    intro w hSw
    (try dsimp only at hSw)
    obtain⟨s0,s1,s2,s4,s5,s6,s7⟩:=hSw
    go_simp
    try with_reducible rfl
   try simp only [xga];try simp only [xgs];try simp only [xgz];try simp only [Act.put];try simp only [xsa];try simp only [xss];try simp only [xsz]
   refine wpAnyI_take (i:=3) (v:=?_) rfl (fun _=>trivial) rfl (by kernel_rfl) (by kernel_rfl) (by kernel_rfl) (fun _ _ _ h=>h) (Or.inl ⟨by rfl,?hy⟩) (by assumption) ?_
   case hy=>
    intro w hSw
    (try dsimp only at hSw)
    obtain⟨s0,s1,s2,s4,s5,s6,s7⟩:=hSw
    go_simp
    try with_reducible rfl
   try simp only [xga];try simp only [xgs];try simp only [xgz];try simp only [Act.put];try simp only [xsa];try simp only [xss];try simp only [xsz]
   refine wpAnyI_take (i:=4) (v:=?_) rfl (fun _=>trivial) rfl (by kernel_rfl) (by kernel_rfl) (by kernel_rfl) (fun _ _ _ h=>h) (Or.inl ⟨by rfl,?hy⟩) (by assumption) ?_
   case hy=>
    intro w hSw
    (try dsimp only at hSw)
    obtain⟨s0,s1,s2,s4,s5,s6,s7⟩:=hSw
    go_simp
    try with_reducible rfl
   try simp only [xga];try simp only [xgs];try simp only [xgz];try simp only [Act.put];try simp only [xsa];try simp only [xss];try simp only [xsz]
   refine wpAnyI_one (i:=6) (by kernel_rfl) rfl (fun K' hK=>?_)
   go_simp
   refine⟨trivial,?_⟩
   with_reducible refine (HL.out _ _ HT3.out).mono ?_
   rintro e V1 (⟨rfl,Z1,hS1,hA⟩ |⟨rfl,xs,Z1,hS1,hA⟩)
   ·have KA:=xhd hA
    clear hA
    refine hK.out _ _ hS1 ?_
    clear hK K'
    try simp only [xga];try simp only [xgs];try simp only [xgz];try simp only [Act.put];try simp only [xsa];try simp only [xss];try simp only [xsz]
    refine wpAnyI_take (i:=7) (v:=?_) rfl (fun _=>trivial) rfl (by kernel_rfl) (by kernel_rfl) (by kernel_rfl) (fun _ _ _ h=>h) (Or.inl ⟨by rfl,?hy⟩) (by assumption) ?_
    case hy=>
     intro w hSw
     (try dsimp only at hSw)
     obtain⟨s0,s1,s2,s4,s5,s6,s7⟩:=hSw
     go_simp
     try with_reducible rfl
    try simp only [xga];try simp only [xgs];try simp only [xgz];try simp only [Act.put];try simp only [xsa];try simp only [xss];try simp only [xsz]
    refine wpAnyI_take (i:=8) (v:=?_) rfl (fun _=>trivial) rfl (by kernel_rfl) (by kernel_rfl) (by kernel_rfl) (fun _ _ _ h=>h) (Or.inl ⟨by rfl,?hy⟩) (by assumption) ?_
    case hy=>
     intro w hSw
     (try dsimp only at hSw)
     obtain⟨s0,s1,s2,s4,s5,s6,s7⟩:=hSw
     go_simp
     try with_reducible rfl
    try simp only [xga];try simp only [xgs];try simp only [xgz];try simp only [Act.put];try simp only [xsa];try simp only [xss];try simp only [xsz]
    refine wpAnyI_take (i:=9) (v:=?_) rfl (fun _=>trivial) rfl (by kernel_rfl) (by kernel_rfl) (by kernel_rfl) (fun _ _ _ h=>h) (Or.inl ⟨by rfl,?hy⟩) (by assumption) ?_
    case hy=>
     intro w hSw
     (try dsimp only at hSw)
     obtain⟨s0,s1,s2,s4,s5,s6,s7⟩:=hSw
     go_simp
     try with_reducible rfl
    try simp only [xga];try simp only [xgs];try simp only [xgz];try simp only [Act.put];try simp only [xsa];try simp only [xss];try simp only [xsz]
    refine wpAnyI_take (i:=10) (v:=?_) rfl (fun _=>trivial) rfl (by kernel_rfl) (by kernel_rfl) (by kernel_rfl) (fun _ _ _ h=>h) (Or.inl ⟨by rfl,?hy⟩) (by assumption) ?_
    case hy=>
     intro w hSw
     (try dsimp only at hSw)
     obtain⟨s0,s1,s2,s4,s5,s6,s7⟩:=hSw
     go_simp
     try with_reducible rfl
    try simp only [xga];try simp only [xgs];try simp only [xgz];try simp only [Act.put];try simp only [xsa];try simp only [xss];try simp only [xsz]
    refine wpAnyI_take (i:=11) (v:=?_) rfl (fun _=>trivial) rfl (by kernel_rfl) (by kernel_rfl) (by kernel_rfl) (fun _ _ _ h=>h) (Or.inl ⟨by rfl,?hy⟩) (by assumption) ?_
    case hy=>
     intro w hSw
     (try dsimp only at hSw)
     obtain⟨s0,s1,s2,s4,s5,s6,s7⟩:=hSw
     go_simp
     try with_reducible rfl
    try simp only [xga];try simp only [xgs];try simp only [xgz];try simp only [Act.put];try simp only [xsa];try simp only [xss];try simp only [xsz]
    refine wpAnyI_take (i:=12) (v:=?_) rfl (fun _=>trivial) rfl (by kernel_rfl) (by kernel_rfl) (by kernel_rfl) (fun _ _ _ h=>h) (Or.inl ⟨by rfl,?hy⟩) (by assumption) ?_
    case hy=>
     intro w hSw
     (try dsimp only at hSw)
     obtain⟨s0,s1,s2,s4,s5,s6,s7⟩:=hSw
     go_simp
     try with_reducible rfl
    try simp only [xga];try simp only [xgs];try simp only [xgz];try simp only [Act.put];try simp only [xsa];try simp only [xss];try simp only [xsz]
    refine wpAnyI_take (i:=14) (v:=?_) rfl (fun _=>trivial) rfl (by kernel_rfl) (by kernel_rfl) (by kernel_rfl) (fun _ _ _ h=>h) (Or.inl ⟨by rfl,?hy⟩) (by assumption) ?_
    case hy=>
     intro w hSw
     (try dsimp only at hSw)
     obtain⟨s0,s1,s2,s4,s5,s6,s7⟩:=hSw
     go_simp
     try with_reducible rfl
    try simp only [xga];try simp only [xgs];try simp only [xgz];try simp only [Act.put];try simp only [xsa];try simp only [xss];try simp only [xsz]
    refine wpAnyI_take (i:=15) (v:=?_) rfl (fun _=>trivial) rfl (by kernel_rfl) (by kernel_rfl) (by kernel_rfl) (fun _ _ _ h=>h) (Or.inl ⟨by rfl,?hy⟩) (by assumption) ?_
    case hy=>
     intro w hSw
     (try dsimp only at hSw)
     obtain⟨s0,s1,s2,s4,s5,s6,s7⟩:=hSw
     go_simp
     try with_reducible rfl
    try simp only [xga];try simp only [xgs];try simp only [xgz];try simp only [Act.put];try simp only [xsa];try simp only [xss];try simp only [xsz]
    refine wpAnyI_take (i:=16) (v:=?_) rfl (fun _=>trivial) rfl (by kernel_rfl) (by kernel_rfl) (by kernel_rfl) (fun _ _ _ h=>h) (Or.inl ⟨by rfl,?hy⟩) (by assumption) ?_
    case hy=>
     intro w hSw
     (try dsimp only at hSw)
     obtain⟨s0,s1,s2,s4,s5,s6,s7⟩:=hSw
     go_simp
     try with_reducible rfl
    try simp only [xga];try simp only [xgs];try simp only [xgz];try simp only [Act.put];try simp only [xsa];try simp only [xss];try simp only [xsz]
    refine wpAnyI_take (i:=17) (v:=?_) rfl (fun _=>trivial) rfl (by kernel_rfl) (by kernel_rfl) (by kernel_rfl) (fun _ _ _ h=>h) (Or.inl ⟨by rfl,?hy⟩) (by assumption) ?_
    case hy=>
     intro w hSw
     (try dsimp only at hSw)
     obtain⟨s0,s1,s2,s4,s5,s6,s7⟩:=hSw
     go_simp
     try with_reducible rfl
    try simp only [xga];try simp only [xgs];try simp only [xgz];try simp only [Act.put];try simp only [xsa];try simp only [xss];try simp only [xsz]
    refine wpAnyI_take (i:=13) (v:=?_) rfl (fun _=>trivial) rfl (by kernel_rfl) (by kernel_rfl) (by kernel_rfl) (fun _ _ _ h=>h) (Or.inl ⟨by rfl,?hy⟩) (by assumption) ?_
    case hy=>
     intro w hSw
     (try dsimp only at hSw)
     obtain⟨s0,s1,s2,s4,s5,s6,s7⟩:=hSw
     go_simp
     try with_reducible rfl
    try simp only [xga];try simp only [xgs];try simp only [xgz];try simp only [Act.put];try simp only [xsa];try simp only [xss];try simp only [xsz]
    refine wpAnyI_take (i:=18) (v:=?_) rfl (fun _=>trivial) rfl (by kernel_rfl) (by kernel_rfl) (by kernel_rfl) (fun _ _ _ h=>h) (Or.inl ⟨by rfl,?hy⟩) (by assumption) ?_
    case hy=>
     intro w hSw
     (try dsimp only at hSw)
     obtain⟨s0,s1,s2,s4,s5,s6,s7⟩:=hSw
     go_simp
     try with_reducible rfl
    try simp only [xga];try simp only [xgs];try simp only [xgz];try simp only [Act.put];try simp only [xsa];try simp only [xss];try simp only [xsz]
    obtain⟨fn,tmps,assign,body,hy,hR⟩:=HY.out V1 Z1 19 KA.out.1 KA.out.2.1 KA.out.2.2.1 KA.out.2.2.2.1 KA.out.2.2.2.2
    (try dsimp only at hy)
    refine wpAnyI_one (i:=19) (by kernel_rfl) rfl (fun K' hK=>?_)
    go_simp
    refine hR.mono ?_
    clear hR
    rintro e V2 (⟨rfl,hS2,hB⟩ |⟨rfl,hS2,hB⟩)
    ·have KB:=xhd hB
     clear hB hy
     refine hK.out _ _ hS2 ?_
     clear hK K'
     try simp only [xga];try simp only [xgs];try simp only [xgz];try simp only [Act.put];try simp only [xsa];try simp only [xss];try simp only [xsz]
     refine wpAnyI_take (i:=20) (v:=?_) rfl (fun _=>trivial) rfl (by kernel_rfl) (by kernel_rfl) (by kernel_rfl) (fun _ _ _ h=>h) (Or.inl ⟨by rfl,?hy⟩) (by assumption) ?_
     case hy=>
      intro w hSw
      (try dsimp only at hSw)
      obtain⟨s0,s1,s2,s4,s5,s6,s7⟩:=hSw
      go_simp
      try with_reducible rfl
     try simp only [xga];try simp only [xgs];try simp only [xgz];try simp only [Act.put];try simp only [xsa];try simp only [xss];try simp only [xsz]
     refine wpAnyI_take (i:=21) (v:=?_) rfl (fun _=>trivial) rfl (by kernel_rfl) (by kernel_rfl) (by kernel_rfl) (fun _ _ _ h=>h) (Or.inl ⟨by rfl,?hy⟩) (by assumption) ?_
     case hy=>
      intro w hSw
      (try dsimp only at hSw)
      obtain⟨s0,s1,s2,s4,s5,s6,s7⟩:=hSw
      go_simp
      try with_reducible rfl
     try simp only [xga];try simp only [xgs];try simp only [xgz];try simp only [Act.put];try simp only [xsa];try simp only [xss];try simp only [xsz]
     refine wpAnyI_take (i:=22) (v:=?_) rfl (fun _=>trivial) rfl (by kernel_rfl) (by kernel_rfl) (by kernel_rfl) (fun _ _ _ h=>h) (Or.inl ⟨by rfl,?hy⟩) (by assumption) ?_
     case hy=>
      intro w hSw
      (try dsimp only at hSw)
      obtain⟨s0,s1,s2,s4,s5,s6,s7⟩:=hSw
      go_simp
      try with_reducible rfl
     try simp only [xga];try simp only [xgs];try simp only [xgz];try simp only [Act.put];try simp only [xsa];try simp only [xss];try simp only [xsz]
     refine wpAnyI_take (i:=23) (v:=?_) rfl (fun _=>trivial) rfl (by kernel_rfl) (by kernel_rfl) (by kernel_rfl) (fun _ _ _ h=>h) (Or.inl ⟨by rfl,?hy⟩) (by assumption) ?_
     case hy=>
      intro w hSw
      (try dsimp only at hSw)
      obtain⟨s0,s1,s2,s4,s5,s6,s7⟩:=hSw
      go_simp
      try with_reducible rfl
     try simp only [xga];try simp only [xgs];try simp only [xgz];try simp only [Act.put];try simp only [xsa];try simp only [xss];try simp only [xsz]
     refine wpAnyI_take (i:=24) (v:=?_) rfl (fun _=>trivial) rfl (by kernel_rfl) (by kernel_rfl) (by kernel_rfl) (fun _ _ _ h=>h) (Or.inl ⟨by rfl,?hy⟩) (by assumption) ?_
     case hy=>
      intro w hSw
      (try dsimp only at hSw)
      obtain⟨s0,s1,s2,s4,s5,s6,s7⟩:=hSw
      go_simp
      try with_reducible rfl
     try simp only [xga];try simp only [xgs];try simp only [xgz];try simp only [Act.put];try simp only [xsa];try simp only [xss];try simp only [xsz]
     refine wpAnyI_take (i:=27) (v:=?_) rfl (fun _=>trivial) rfl (by kernel_rfl) (by kernel_rfl) (by kernel_rfl) (fun _ _ _ h=>h) (Or.inl ⟨by rfl,?hy⟩) (by assumption) ?_
     case hy=>
      intro w hSw
      (try dsimp only at hSw)
      obtain⟨s0,s1,s2,s4,s5,s6,s7⟩:=hSw
      go_simp
      try with_reducible rfl
     try simp only [xga];try simp only [xgs];try simp only [xgz];try simp only [Act.put];try simp only [xsa];try simp only [xss];try simp only [xsz]
     refine wpAnyI_take (i:=25) (v:=?_) rfl (fun _=>trivial) rfl (by kernel_rfl) (by kernel_rfl) (by kernel_rfl) (fun _ _ _ h=>h) (Or.inl ⟨by rfl,?hy⟩) (by assumption) ?_
     case hy=>
      intro w hSw
      (try dsimp only at hSw)
      obtain⟨s0,s1,s2,s4,s5,s6,s7⟩:=hSw
      go_simp
      try with_reducible rfl
     try simp only [xga];try simp only [xgs];try simp only [xgz];try simp only [Act.put];try simp only [xsa];try simp only [xss];try simp only [xsz]
     refine wpAnyI_take (i:=26) (v:=?_) rfl (fun _=>trivial) rfl (by kernel_rfl) (by kernel_rfl) (by kernel_rfl) (fun _ _ _ h=>h) (Or.inl ⟨by rfl,?hy⟩) (by assumption) ?_
     case hy=>
      intro w hSw
      (try dsimp only at hSw)
      obtain⟨s0,s1,s2,s4,s5,s6,s7⟩:=hSw
      go_simp
      try with_reducible rfl
     try simp only [xga];try simp only [xgs];try simp only [xgz];try simp only [Act.put];try simp only [xsa];try simp only [xss];try simp only [xsz]
     refine wpAnyI_one (i:=28) (by kernel_rfl) rfl (fun K' hK=>?_)
     go_simp
     refine⟨trivial,?_⟩
     obtain⟨j1,j2,j3,g1,g2⟩:=KB.out
     with_reducible refine (HR.out _ _ _ j1 j2 j3 g1 g2).mono ?_
     clear j1 j2 j3 g1 g2
     rintro e V3 ⟨bb,rfl,hS3,hF⟩
     have HF:=xhd hF
     clear hF
     refine hK.out _ _ hS3 ?_
     clear hK K'
     try simp only [xga];try simp only [xgs];try simp only [xgz];try simp only [Act.put];try simp only [xsa];try simp only [xss];try simp only [xsz]
     refine wpAnyI_take (i:=29) (v:=?_) rfl (fun _=>trivial) rfl (by kernel_rfl) (by kernel_rfl) (by kernel_rfl) (fun _ _ _ h=>h) (Or.inl ⟨by rfl,?hy⟩) (by assumption) ?_
     case hy=>
      intro w hSw
      (try dsimp only at hSw)
      obtain⟨s0,s1,s2,s4,s5,s6,s7⟩:=hSw
      go_simp
      try with_reducible rfl
     try simp only [xga];try simp only [xgs];try simp only [xgz];try simp only [Act.put];try simp only [xsa];try simp only [xss];try simp only [xsz]
     refine wpAnyI_take (i:=30) (v:=?_) rfl (fun _=>trivial) rfl (by kernel_rfl) (by kernel_rfl) (by kernel_rfl) (fun _ _ _ h=>h) (Or.inl ⟨by rfl,?hy⟩) (by assumption) ?_
     case hy=>
      intro w hSw
      (try dsimp only at hSw)
      obtain⟨s0,s1,s2,s4,s5,s6,s7⟩:=hSw
      go_simp
      try with_reducible rfl
     try simp only [xga];try simp only [xgs];try simp only [xgz];try simp only [Act.put];try simp only [xsa];try simp only [xss];try simp only [xsz]
     refine wpAnyI_done (by kernel_rfl) ?_ _
     refine NoPanic.normal ?_
     try simp only [xga];try simp only [xgs];try simp only [xgz];try simp only [Act.put];try simp only [xsa];try simp only [xss];try simp only [xsz]
     go_wp2
     go_ret
     exact HF.out
    ·have HF:Hid (WalkP J Jx L pre (.node c tl (x1,x2,x3) tr) Z W (.returned (.bool false)) V2):=xhd (HX.out _ _ _ hB.2.1 hB.2.2 HP2.out hB.1)
     clear hB hy
     refine hK.out _ _ hS2 ?_
     clear hK K'
     try simp only [xga];try simp only [xgs];try simp only [xgz];try simp only [Act.put];try simp only [xsa];try simp only [xss];try simp only [xsz]
     refine wpAnyI_take (i:=20) (v:=?_) rfl (fun _=>trivial) rfl (by kernel_rfl) (by kernel_rfl) (by kernel_rfl) (fun _ _ _ h=>h) (Or.inl ⟨by rfl,?hy⟩) (by assumption) ?_
     case hy=>
      intro w hSw
      (try dsimp only at hSw)
      obtain⟨s0,s1,s2,s4,s5,s6,s7⟩:=hSw
      go_simp
      try with_reducible rfl
     try simp only [xga];try simp only [xgs];try simp only [xgz];try simp only [Act.put];try simp only [xsa];try simp only [xss];try simp only [xsz]
     refine wpAnyI_take (i:=21) (v:=?_) rfl (fun _=>trivial) rfl (by kernel_rfl) (by kernel_rfl) (by kernel_rfl) (fun _ _ _ h=>h) (Or.inl ⟨by rfl,?hy⟩) (by assumption) ?_
     case hy=>
      intro w hSw
      (try dsimp only at hSw)
      obtain⟨s0,s1,s2,s4,s5,s6,s7⟩:=hSw
      go_simp
      try with_reducible rfl
     try simp only [xga];try simp only [xgs];try simp only [xgz];try simp only [Act.put];try simp only [xsa];try simp only [xss];try simp only [xsz]
     refine wpAnyI_take (i:=22) (v:=undef) rfl (fun _=>trivial) rfl (by kernel_rfl) (by kernel_rfl) (by kernel_rfl) (fun _ _ _ h=>h) (Or.inr ⟨by rfl,rfl⟩) (by assumption) ?_
     try simp only [xga];try simp only [xgs];try simp only [xgz];try simp only [Act.put];try simp only [xsa];try simp only [xss];try simp only [xsz]
     refine wpAnyI_take (i:=23) (v:=undef) rfl (fun _=>trivial) rfl (by kernel_rfl) (by kernel_rfl) (by kernel_rfl) (fun _ _ _ h=>h) (Or.inr ⟨by rfl,rfl⟩) (by assumption) ?_
     try simp only [xga];try simp only [xgs];try simp only [xgz];try simp only [Act.put];try simp only [xsa];try simp only [xss];try simp only [xsz]
     refine wpAnyI_take (i:=24) (v:=undef) rfl (fun _=>trivial) rfl (by kernel_rfl) (by kernel_rfl) (by kernel_rfl) (fun _ _ _ h=>h) (Or.inr ⟨by rfl,rfl⟩) (by assumption) ?_
     try simp only [xga];try simp only [xgs];try simp only [xgz];try simp only [Act.put];try simp only [xsa];try simp only [xss];try simp only [xsz]
     refine wpAnyI_take (i:=25) (v:=undef) rfl (fun _=>trivial) rfl (by kernel_rfl) (by kernel_rfl) (by kernel_rfl) (fun _ _ _ h=>h) (Or.inr ⟨by rfl,rfl⟩) (by assumption) ?_
     try simp only [xga];try simp only [xgs];try simp only [xgz];try simp only [Act.put];try simp only [xsa];try simp only [xss];try simp only [xsz]
     refine wpAnyI_take (i:=26) (v:=undef) rfl (fun _=>trivial) rfl (by kernel_rfl) (by kernel_rfl) (by kernel_rfl) (fun _ _ _ h=>h) (Or.inr ⟨by rfl,rfl⟩) (by assumption) ?_
     try simp only [xga];try simp only [xgs];try simp only [xgz];try simp only [Act.put];try simp only [xsa];try simp only [xss];try simp only [xsz]
     refine wpAnyI_take (i:=27) (v:=undef) rfl (fun _=>trivial) rfl (by kernel_rfl) (by kernel_rfl) (by kernel_rfl) (fun _ _ _ h=>h) (Or.inr ⟨by rfl,rfl⟩) (by assumption) ?_
     try simp only [xga];try simp only [xgs];try simp only [xgz];try simp only [Act.put];try simp only [xsa];try simp only [xss];try simp only [xsz]
     refine wpAnyI_take (i:=28) (v:=undef) rfl (fun _=>trivial) rfl (by kernel_rfl) (by kernel_rfl) (by kernel_rfl) (fun _ _ _ h=>h) (Or.inr ⟨by rfl,rfl⟩) (by assumption) ?_
     try simp only [xga];try simp only [xgs];try simp only [xgz];try simp only [Act.put];try simp only [xsa];try simp only [xss];try simp only [xsz]
     refine wpAnyI_take (i:=29) (v:=?_) rfl (fun _=>trivial) rfl (by kernel_rfl) (by kernel_rfl) (by kernel_rfl) (fun _ _ _ h=>h) (Or.inl ⟨by rfl,?hy⟩) (by assumption) ?_
     case hy=>
      intro w hSw
      (try dsimp only at hSw)
      obtain⟨s0,s1,s2,s4,s5,s6,s7⟩:=hSw
      go_simp
      try with_reducible rfl
     try simp only [xga];try simp only [xgs];try simp only [xgz];try simp only [Act.put];try simp only [xsa];try simp only [xss];try simp only [xsz]
     refine wpAnyI_take (i:=30) (v:=?_) rfl (fun _=>trivial) rfl (by kernel_rfl) (by kernel_rfl) (by kernel_rfl) (fun _ _ _ h=>h) (Or.inl ⟨by rfl,?hy⟩) (by assumption) ?_
     case hy=>
      intro w hSw
      (try dsimp only at hSw)
      obtain⟨s0,s1,s2,s4,s5,s6,s7⟩:=hSw
      go_simp
      try with_reducible rfl
     try simp only [xga];try simp only [xgs];try simp only [xgz];try simp only [Act.put];try simp only [xsa];try simp only [xss];try simp only [xsz]
     refine wpAnyI_done (by kernel_rfl) ?_ _
     refine NoPanic.normal ?_
     try simp only [xga];try simp only [xgs];try simp only [xgz];try simp only [Act.put];try simp only [xsa];try simp only [xss];try simp only [xsz]
     go_wp2
     go_ret
     exact HF.out
   ·have HF:Hid (WalkP J Jx L pre (.node c tl (x1,x2,x3) tr) Z W (.returned (.bool false)) V1):=xhd (HX.out _ _ _ hA.2.2.1 hA.2.2.2 hA.1 hA.2.1)
    clear hA
    refine hK.out _ _ hS1 ?_
    clear hK K'
    try simp only [xga];try simp only [xgs];try simp only [xgz];try simp only [Act.put];try simp only [xsa];try simp only [xss];try simp only [xsz]
    refine wpAnyI_take (i:=7) (v:=?_) rfl (fun _=>trivial) rfl (by kernel_rfl) (by kernel_rfl) (by kernel_rfl) (fun _ _ _ h=>h) (Or.inl ⟨by rfl,?hy⟩) (by assumption) ?_
    case hy=>
     intro w hSw
     (try dsimp only at hSw)
     obtain⟨s0,s1,s2,s4,s5,s6,s7⟩:=hSw
     go_simp
     try with_reducible rfl
    try simp only [xga];try simp only [xgs];try simp only [xgz];try simp only [Act.put];try simp only [xsa];try simp only [xss];try simp only [xsz]
    refine wpAnyI_take (i:=8) (v:=undef) rfl (fun _=>trivial) rfl (by kernel_rfl) (by kernel_rfl) (by kernel_rfl) (fun _ _ _ h=>h) (Or.inr ⟨by rfl,rfl⟩) (by assumption) ?_
    try simp only [xga];try simp only [xgs];try simp only [xgz];try simp only [Act.put];try simp only [xsa];try simp only [xss];try simp only [xsz]
    refine wpAnyI_take (i:=9) (v:=undef) rfl (fun _=>trivial) rfl (by kernel_rfl) (by kernel_rfl) (by kernel_rfl) (fun _ _ _ h=>h) (Or.inr ⟨by rfl,rfl⟩) (by assumption) ?_
    try simp only [xga];try simp only [xgs];try simp only [xgz];try simp only [Act.put];try simp only [xsa];try simp only [xss];try simp only [xsz]
    refine wpAnyI_take (i:=10) (v:=undef) rfl (fun _=>trivial) rfl (by kernel_rfl) (by kernel_rfl) (by kernel_rfl) (fun _ _ _ h=>h) (Or.inr ⟨by rfl,rfl⟩) (by assumption) ?_
    try simp only [xga];try simp only [xgs];try simp only [xgz];try simp only [Act.put];try simp only [xsa];try simp only [xss];try simp only [xsz]
    refine wpAnyI_take (i:=11) (v:=undef) rfl (fun _=>trivial) rfl (by kernel_rfl) (by kernel_rfl) (by kernel_rfl) (fun _ _ _ h=>h) (Or.inr ⟨by rfl,rfl⟩) (by assumption) ?_
    try simp only [xga];try simp only [xgs];try simp only [xgz];try simp only [Act.put];try simp only [xsa];try simp only [xss];try simp only [xsz]
    refine wpAnyI_take (i:=12) (v:=undef) rfl (fun _=>trivial) rfl (by kernel_rfl) (by kernel_rfl) (by kernel_rfl) (fun _ _ _ h=>h) (Or.inr ⟨by rfl,rfl⟩) (by assumption) ?_
    try simp only [xga];try simp only [xgs];try simp only [xgz];try simp only [Act.put];try simp only [xsa];try simp only [xss];try simp only [xsz]
    refine wpAnyI_take (i:=13) (v:=undef) rfl (fun _=>trivial) rfl (by kernel_rfl) (by kernel_rfl) (by kernel_rfl) (fun _ _ _ h=>h) (Or.inr ⟨by rfl,rfl⟩) (by assumption) ?_
    try simp only [xga];try simp only [xgs];try simp only [xgz];try simp only [Act.put];try simp only [xsa];try simp only [xss];try simp only [xsz]
    refine wpAnyI_take (i:=14) (v:=undef) rfl (fun _=>trivial) rfl (by kernel_rfl) (by kernel_rfl) (by kernel_rfl) (fun _ _ _ h=>h) (Or.inr ⟨by rfl,rfl⟩) (by assumption) ?_
    try simp only [xga];try simp only [xgs];try simp only [xgz];try simp only [Act.put];try simp only [xsa];try simp only [xss];try simp only [xsz]
    refine wpAnyI_take (i:=15) (v:=undef) rfl (fun _=>trivial) rfl (by kernel_rfl) (by kernel_rfl) (by kernel_rfl) (fun _ _ _ h=>h) (Or.inr ⟨by rfl,rfl⟩) (by assumption) ?_
    try simp only [xga];try simp only [xgs];try simp only [xgz];try simp only [Act.put];try simp only [xsa];try simp only [xss];try simp only [xsz]
    refine wpAnyI_take (i:=16) (v:=undef) rfl (fun _=>trivial) rfl (by kernel_rfl) (by kernel_rfl) (by kernel_rfl) (fun _ _ _ h=>h) (Or.inr ⟨by rfl,rfl⟩) (by assumption) ?_
    try simp only [xga];try simp only [xgs];try simp only [xgz];try simp only [Act.put];try simp only [xsa];try simp only [xss];try simp only [xsz]
    refine wpAnyI_take (i:=17) (v:=undef) rfl (fun _=>trivial) rfl (by kernel_rfl) (by kernel_rfl) (by kernel_rfl) (fun _ _ _ h=>h) (Or.inr ⟨by rfl,rfl⟩) (by assumption) ?_
    try simp only [xga];try simp only [xgs];try simp only [xgz];try simp only [Act.put];try simp only [xsa];try simp only [xss];try simp only [xsz]
    refine wpAnyI_take (i:=18) (v:=undef) rfl (fun _=>trivial) rfl (by kernel_rfl) (by kernel_rfl) (by kernel_rfl) (fun _ _ _ h=>h) (Or.inr ⟨by rfl,rfl⟩) (by assumption) ?_
    try simp only [xga];try simp only [xgs];try simp only [xgz];try simp only [Act.put];try simp only [xsa];try simp only [xss];try simp only [xsz]
    refine wpAnyI_take (i:=19) (v:=undef) rfl (fun _=>trivial) rfl (by kernel_rfl) (by kernel_rfl) (by kernel_rfl) (fun _ _ _ h=>h) (Or.inr ⟨by rfl,rfl⟩) (by assumption) ?_
    try simp only [xga];try simp only [xgs];try simp only [xgz];try simp only [Act.put];try simp only [xsa];try simp only [xss];try simp only [xsz]
    refine wpAnyI_take (i:=20) (v:=?_) rfl (fun _=>trivial) rfl (by kernel_rfl) (by kernel_rfl) (by kernel_rfl) (fun _ _ _ h=>h) (Or.inl ⟨by rfl,?hy⟩) (by assumption) ?_
    case hy=>
     intro w hSw
     (try dsimp only at hSw)
     obtain⟨s0,s1,s2,s4,s5,s6,s7⟩:=hSw
     go_simp
     try with_reducible rfl
    try simp only [xga];try simp only [xgs];try simp only [xgz];try simp only [Act.put];try simp only [xsa];try simp only [xss];try simp only [xsz]
    refine wpAnyI_take (i:=21) (v:=?_) rfl (fun _=>trivial) rfl (by kernel_rfl) (by kernel_rfl) (by kernel_rfl) (fun _ _ _ h=>h) (Or.inl ⟨by rfl,?hy⟩) (by assumption) ?_
    case hy=>
     intro w hSw
     (try dsimp only at hSw)
     obtain⟨s0,s1,s2,s4,s5,s6,s7⟩:=hSw
     go_simp
     try with_reducible rfl
    try simp only [xga];try simp only [xgs];try simp only [xgz];try simp only [Act.put];try simp only [xsa];try simp only [xss];try simp only [xsz]
    refine wpAnyI_take (i:=22) (v:=undef) rfl (fun _=>trivial) rfl (by kernel_rfl) (by kernel_rfl) (by kernel_rfl) (fun _ _ _ h=>h) (Or.inr ⟨by rfl,rfl⟩) (by assumption) ?_
    try simp only [xga];try simp only [xgs];try simp only [xgz];try simp only [Act.put];try simp only [xsa];try simp only [xss];try simp only [xsz]
    refine wpAnyI_take (i:=23) (v:=undef) rfl (fun _=>trivial) rfl (by kernel_rfl) (by kernel_rfl) (by kernel_rfl) (fun _ _ _ h=>h) (Or.inr ⟨by rfl,rfl⟩) (by assumption) ?_
    try simp only [xga];try simp only [xgs];try simp only [xgz];try simp only [Act.put];try simp only [xsa];try simp only [xss];try simp only [xsz]
    refine wpAnyI_take (i:=24) (v:=undef) rfl (fun _=>trivial) rfl (by kernel_rfl) (by kernel_rfl) (by kernel_rfl) (fun _ _ _ h=>h) (Or.inr ⟨by rfl,rfl⟩) (by assumption) ?_
    try simp only [xga];try simp only [xgs];try simp only [xgz];try simp only [Act.put];try simp only [xsa];try simp only [xss];try simp only [xsz]
    refine wpAnyI_take (i:=25) (v:=undef) rfl (fun _=>trivial) rfl (by kernel_rfl) (by kernel_rfl) (by kernel_rfl) (fun _ _ _ h=>h) (Or.inr ⟨by rfl,rfl⟩) (by assumption) ?_
    try simp only [xga];try simp only [xgs];try simp only [xgz];try simp only [Act.put];try simp only [xsa];try simp only [xss];try simp only [xsz]
    refine wpAnyI_take (i:=26) (v:=undef) rfl (fun _=>trivial) rfl (by kernel_rfl) (by kernel_rfl) (by kernel_rfl) (fun _ _ _ h=>h) (Or.inr ⟨by rfl,rfl⟩) (by assumption) ?_
    try simp only [xga];try simp only [xgs];try simp only [xgz];try simp only [Act.put];try simp only [xsa];try simp only [xss];try simp only [xsz]
    refine wpAnyI_take (i:=27) (v:=undef) rfl (fun _=>trivial) rfl (by kernel_rfl) (by kernel_rfl) (by kernel_rfl) (fun _ _ _ h=>h) (Or.inr ⟨by rfl,rfl⟩) (by assumption) ?_
    try simp only [xga];try simp only [xgs];try simp only [xgz];try simp only [Act.put];try simp only [xsa];try simp only [xss];try simp only [xsz]
    refine wpAnyI_take (i:=28) (v:=undef) rfl (fun _=>trivial) rfl (by kernel_rfl) (by kernel_rfl) (by kernel_rfl) (fun _ _ _ h=>h) (Or.inr ⟨by rfl,rfl⟩) (by assumption) ?_
    try simp only [xga];try simp only [xgs];try simp only [xgz];try simp only [Act.put];try simp only [xsa];try simp only [xss];try simp only [xsz]
    refine wpAnyI_take (i:=29) (v:=?_) rfl (fun _=>trivial) rfl (by kernel_rfl) (by kernel_rfl) (by kernel_rfl) (fun _ _ _ h=>h) (Or.inl ⟨by rfl,?hy⟩) (by assumption) ?_
    case hy=>
     intro w hSw
     (try dsimp only at hSw)
     obtain⟨s0,s1,s2,s4,s5,s6,s7⟩:=hSw
     go_simp
     try with_reducible rfl
    try simp only [xga];try simp only [xgs];try simp only [xgz];try simp only [Act.put];try simp only [xsa];try simp only [xss];try simp only [xsz]
    refine wpAnyI_take (i:=30) (v:=?_) rfl (fun _=>trivial) rfl (by kernel_rfl) (by kernel_rfl) (by kernel_rfl) (fun _ _ _ h=>h) (Or.inl ⟨by rfl,?hy⟩) (by assumption) ?_
    case hy=>
     intro w hSw
     (try dsimp only at hSw)
     obtain⟨s0,s1,s2,s4,s5,s6,s7⟩:=hSw
     go_simp
     try with_reducible rfl
    try simp only [xga];try simp only [xgs];try simp only [xgz];try simp only [Act.put];try simp only [xsa];try simp only [xss];try simp only [xsz]
    refine wpAnyI_done (by kernel_rfl) ?_ _
    refine NoPanic.normal ?_
    try simp only [xga];try simp only [xgs];try simp only [xgz];try simp only [Act.put];try simp only [xsa];try simp only [xss];try simp only [xsz]
    go_wp2
    go_ret
    exact HF.out
end
end Go.Proofs.YtfmciiffcmfagaaGreat
namespace Go.Proofs.YtfmciiffcmfagaaGreat
def itT (B:Int→Nat) (x:Tk):Itm Nat:=(0,x.1,B x.1)
def itR (B:Int→Nat) (x:Tk):Itm Nat:=(x.2.1,x.1,B x.1)
def HasT (B:Int→Nat) (L:List Tk) (T:Tr Nat):Prop:=T.Good∧T.list.Perm (L.map (itT B))
def HasR (B:Int→Nat) (L:List Tk) (T:Tr Nat):Prop:=T.Good∧T.list.Perm (L.map (itR B))
theorem perm_insL (it:Itm Nat):∀L:List (Itm Nat),(Tr.insL it L).Perm (it::L)
 |[]=>List.Perm.refl _
 |x::L=>by
  simp only [Tr.insL]
  split
  ·exact List.Perm.refl _
  ·exact ((perm_insL it L).cons x).trans (List.Perm.swap _ _ _)
theorem perm_delL {L:List (Itm Nat)} {A:List Tk} {f:Tk→Itm Nat} (h:L.Perm (A.map f)) (k:Int×Int):(Tr.delL k L).Perm ((A.filter fun x=>decide (ordI k (ky (f x))≠0)).map f):=by
 have e:(A.map f).filter (fun x=>decide (ordI k (ky x)≠0))=(A.filter fun x=>decide (ordI k (ky (f x))≠0)).map f:=by
  rw [List.filter_map]
  rfl
 rw [←e]
 exact h.filter _
theorem HasT.len {B:Int→Nat} {L:List Tk} {T:Tr Nat} (h:HasT B L T):T.list.length=L.length:=by
 have:=h.2.length_eq
 simpa using this
theorem HasT.find {B:Int→Nat} {L:List Tk} {T:Tr Nat} (h:HasT B L T) (id:Int):T.fnd (0,id)=(findQ L id).map fun _=>(0,id,B id):=by
 cases hf:T.fnd (0,id) with
 |none=>
  have h1:=fnd_none h.1 hf
  cases hq:findQ L id with
  |none=>rfl
  |some x=>
   have h2:=findQ_mem hq
   have h3:itT B (id,x) ∈ T.list:=h.2.mem_iff.2 (List.mem_map_of_mem h2)
   exact absurd (ord_zero.2 rfl) (h1 _ h3)
 |some y=>
  obtain⟨h1,h2⟩:=fnd_some h.1 hf
  obtain⟨x,hx,rfl⟩:=List.mem_map.1 (h.2.mem_iff.1 h1)
  simp only [itT,ky,Prod.mk.injEq,true_and] at h2
  cases hq:findQ L id with
  |none=>exact absurd h2 (findQ_none hq x hx)
  |some z=>
   subst h2
   rfl
theorem HasT.key {B:Int→Nat} {L:List Tk} {T:Tr Nat} (h:HasT B L T) (h0:∀x ∈ L,0≤x.1):∀y ∈ T.list,KeyOk y:=fun y hy=>by
 obtain⟨x,hx,rfl⟩:=List.mem_map.1 (h.2.mem_iff.1 hy)
 have:=h0 x hx
 exact⟨Int.le_refl _,by show -9223372036854775808≤x.1;omega⟩
theorem map_at {B:Int→Nat} {L:List Tk} {id:Int} {k:Nat} (hn:∀x ∈ L,x.1≠id) (f:Tk→Nat→Itm Nat):L.map (fun x=>f x (if x.1=id then k else B x.1))=L.map (fun x=>f x (B x.1)):=
 List.map_congr_left fun x hx=>by rw [if_neg (hn x hx)]
theorem HasT.insert {B:Int→Nat} {L:List Tk} {T:Tr Nat} (h:HasT B L T) {id:Int} (hn:findQ L id=none) (hl:L.length < 16) (k:Nat) (v w:Int):
  tiE 16 T (0,id)=0∧HasT (fun i=>if i=id then k else B i) (L++[(id,v,w)]) (tiT 16 T (0,id,k)):=by
 have hf:=h.find id
 rw [hn] at hf
 simp only [Option.map_none] at hf
 have hlen:=h.len
 have he:tiE 16 T (0,id)=0:=by
  rw [tiE,hf,Option.isSome_none,if_neg (by simp),if_neg (by omega)]
 refine⟨he,?_⟩
 rw [tiT,show tiE 16 T (ky ((0,id,k):Itm Nat))=0 from he,if_pos rfl]
 obtain⟨g1,g2⟩:=h.1.ins (0,id,k) (fnd_none h.1 hf)
 refine⟨g1,?_⟩
 rw [g2]
 refine (perm_insL _ _).trans ?_
 rw [List.map_append]
 refine (List.Perm.cons _ h.2).trans ?_
 rw [show L.map (itT fun i=>if i=id then k else B i)=L.map (itT B) from map_at (findQ_none hn) (fun x b=>(0,x.1,b))]
 rw [show ([(id,v,w)]:List Tk).map (itT fun i=>if i=id then k else B i)=[(0,id,k)] by simp [itT]]
 exact List.perm_append_comm (l₁:=[(0,id,k)])
theorem HasT.refuse {B:Int→Nat} {L:List Tk} {T:Tr Nat} (h:HasT B L T) (q:Rq) (hq:q.l=L) {id:Int} (h0:0≤id) (hl:L.length≤16):tiE 16 T (0,id)=addE q id:=by
 rw [tiE,addE,hq,h.find id,h.len]
 have hn:¬id < 0:=by omega
 simp only [if_neg hn]
 cases findQ L id with
 |none=>
  by_cases e:L.length=16
  ·simp [e]
  ·have e1:¬(L.length:Int)=16:=by omega
   have e2:¬16≤L.length:=by omega
   simp [e1,e2]
 |some x=>rfl
theorem tiT_not {m:Int} {T:Tr Nat} {it:Itm Nat} (h:tiE m T (ky it)≠0):tiT m T it=T:=by rw [tiT,if_neg h]
theorem HasT.delete {B:Int→Nat} {L:List Tk} {T:Tr Nat} (h:HasT B L T) {id:Int} (hs:(findQ L id).isSome=true):HasT B (L.filter fun x=>decide (x.1≠id)) (tdT T (0,id)):=by
 have hf:=h.find id
 obtain⟨x,hx⟩:=Option.isSome_iff_exists.1 hs
 rw [hx] at hf
 simp only [Option.map_some] at hf
 rw [tdT,hf,Option.isSome_some,if_pos rfl]
 obtain⟨g1,g2⟩:=h.1.del (0,id) ⟨_,(fnd_some h.1 hf).1,rfl⟩
 refine⟨g1,?_⟩
 rw [g2]
 have hp:=perm_delL h.2 (0,id)
 rw [show (L.filter fun x=>decide (ordI (0,id) (ky (itT B x))≠0))=L.filter fun x=>decide (x.1≠id) from List.filter_congr fun y _=>by
  rw [decide_eq_decide]
  rw [ne_eq,ord_zero]
  simp only [itT,ky,Prod.mk.injEq,true_and,ne_eq,eq_comm]] at hp
 exact hp
theorem HasT.same {B:Int→Nat} {L:List Tk} {T:Tr Nat} (h:HasT B L T) (f:Tk→Tk) (hf:∀x,(f x).1=x.1):HasT B (L.map f) T:=by
 refine⟨h.1,?_⟩
 rw [List.map_map,show L.map (itT B ∘ f)=L.map (itT B) from List.map_congr_left fun x _=>by simp [itT,hf]]
 exact h.2
section
variable {B:Int→Nat} {L:List Tk} {T:Tr Nat}
theorem HasR.len (h:HasR B L T):T.list.length=L.length:=by
 have:=h.2.length_eq
 simpa using this
theorem HasR.key (h:HasR B L T) (h0:∀x ∈ L,0≤x.1) (hv:∀x ∈ L,Word x.2.1):∀y ∈ T.list,KeyOk y:=fun y hy=>by
 obtain⟨x,hx,rfl⟩:=List.mem_map.1 (h.2.mem_iff.1 hy)
 have:=h0 x hx
 exact⟨(hv x hx).1,by show -9223372036854775808≤x.1;omega⟩
theorem HasR.find (h:HasR B L T) (hu:(L.map (·.1)).Nodup) {x:Tk} (hx:x ∈ L):T.fnd (x.2.1,x.1)=some (itR B x):=by
 cases hf:T.fnd (x.2.1,x.1) with
 |none=>exact absurd (ord_zero.2 rfl) (fnd_none h.1 hf _ (h.2.mem_iff.2 (List.mem_map_of_mem hx)))
 |some y=>
  obtain⟨h1,h2⟩:=fnd_some h.1 hf
  obtain⟨z,hz,rfl⟩:=List.mem_map.1 (h.2.mem_iff.1 h1)
  simp only [itR,ky,Prod.mk.injEq] at h2
  rw [findQ_one hu hz hx h2.2]
theorem HasR.miss (h:HasR B L T) {v id:Int} (hn:∀x ∈ L,¬(x.2.1=v∧x.1=id)):T.fnd (v,id)=none:=by
 cases hf:T.fnd (v,id) with
 |none=>rfl
 |some y=>
  obtain⟨h1,h2⟩:=fnd_some h.1 hf
  obtain⟨z,hz,rfl⟩:=List.mem_map.1 (h.2.mem_iff.1 h1)
  simp only [itR,ky,Prod.mk.injEq] at h2
  exact absurd h2 (hn z hz)
theorem HasR.insert (h:HasR B L T) {x:Tk} (hn:∀y ∈ L,y.1≠x.1) (hl:L.length < 16):HasR B (L++[x]) (tiT 16 T (itR B x)):=by
 have hf:T.fnd (x.2.1,x.1)=none:=h.miss fun y hy e=>hn y hy e.2
 have hlen:=h.len
 have he:tiE 16 T (ky (itR B x))=0:=by
  show tiE 16 T (x.2.1,x.1)=0
  rw [tiE,hf,Option.isSome_none,if_neg (by simp),if_neg (by omega)]
 rw [tiT,he,if_pos rfl]
 obtain⟨g1,g2⟩:=h.1.ins (itR B x) (fnd_none h.1 hf)
 refine⟨g1,?_⟩
 rw [g2]
 refine (perm_insL _ _).trans ((List.Perm.cons _ h.2).trans ?_)
 rw [List.map_append]
 exact List.perm_append_comm (l₁:=[itR B x])
theorem HasR.congr {L':List Tk} (h:HasR B L T) (hp:L.Perm L'):HasR B L' T:=⟨h.1,h.2.trans (hp.map _)⟩
theorem HasR.at_ (h:HasR B L T) {id:Int} {k:Nat} (hn:∀x ∈ L,x.1≠id):HasR (fun i=>if i=id then k else B i) L T:=
 ⟨h.1,by rw [show L.map (itR fun i=>if i=id then k else B i)=L.map (itR B) from map_at hn (fun x b=>(x.2.1,x.1,b))];exact h.2⟩
theorem filter_ready (hu:(L.map (·.1)).Nodup) {x:Tk} (hx:x ∈ L) (B:Int→Nat):(L.filter fun y=>decide (ordI (x.2.1,x.1) (ky (itR B y))≠0))=L.filter fun y=>decide (y.1≠x.1):=
 List.filter_congr fun y hy=>by
  rw [decide_eq_decide,ne_eq,ord_zero]
  simp only [itR,ky,Prod.mk.injEq]
  constructor
  ·intro h e
   rw [findQ_one hu hy hx e] at h
   exact h ⟨rfl,rfl⟩
  ·rintro h ⟨_,e⟩
   exact h e.symm
theorem HasR.delete (h:HasR B L T) (hu:(L.map (·.1)).Nodup) {x:Tk} (hx:x ∈ L):HasR B (L.filter fun y=>decide (y.1≠x.1)) (tdT T (x.2.1,x.1)):=by
 have hf:=h.find hu hx
 rw [tdT,hf,Option.isSome_some,if_pos rfl]
 obtain⟨g1,g2⟩:=h.1.del (x.2.1,x.1) ⟨_,(fnd_some h.1 hf).1,rfl⟩
 refine⟨g1,?_⟩
 rw [g2]
 have hp:=perm_delL h.2 (x.2.1,x.1)
 rw [filter_ready hu hx B] at hp
 exact hp
theorem move_perm:∀ {L:List Tk} (_:(L.map (·.1)).Nodup) {x:Tk} (_:x ∈ L) (y:Tk),y.1=x.1→((L.filter fun z=>decide (z.1≠x.1))++[y]).Perm (L.map fun z=>if z.1=x.1 then y else z)
 |[],_,_,h,_,_=>by cases h
 |a::L,hu,x,hx,y,hy=>by
  simp only [List.map_cons,List.nodup_cons] at hu
  obtain⟨h1,h2⟩:=hu
  by_cases e:a.1=x.1
  ·have hne:∀z ∈ L,z.1≠x.1:=fun z hz e2=>h1 (by rw [e, ←e2];exact List.mem_map_of_mem hz)
   have f1:L.filter (fun z=>decide (z.1≠x.1))=L:=List.filter_eq_self.2 fun z hz=>by simpa using hne z hz
   have f2:L.map (fun z=>if z.1=x.1 then y else z)=L:=by
    conv=>rhs;rw [←List.map_id L]
    exact List.map_congr_left fun z hz=>by rw [if_neg (hne z hz)];rfl
   rw [List.filter_cons_of_neg (by simpa using e),List.map_cons,if_pos e,f1,f2]
   exact List.perm_append_comm (l₂:=[y])
  ·have hx':x ∈ L:=by
     rcases List.mem_cons.1 hx with rfl|h
     ·exact absurd rfl e
     ·exact h
   rw [List.filter_cons_of_pos (by simpa using e),List.map_cons,if_neg e]
   exact (move_perm h2 hx' y hy).cons a
theorem HasR.move (h:HasR B L T) (hu:(L.map (·.1)).Nodup) {x:Tk} (hx:x ∈ L) (v w:Int):
  HasR B (L.map fun z=>if z.1=x.1 then (x.1,v,w) else z) (tmT T (x.2.1,x.1) (v,x.1)):=by
 have hf:=h.find hu hx
 by_cases e:x.2.1=v
 ·rw [tmT,hf]
  simp only
  rw [if_pos (by rw [e])]
  refine⟨h.1,?_⟩
  rw [List.map_map,show L.map (itR B ∘ fun z=>if z.1=x.1 then (x.1,v,w) else z)=L.map (itR B) from List.map_congr_left fun z hz=>by
   simp only [Function.comp]
   by_cases e2:z.1=x.1
   ·rw [if_pos e2,findQ_one hu hz hx e2]
    simp [itR,e]
   ·rw [if_neg e2]]
  exact h.2
 ·have hm:T.fnd (v,x.1)=none:=h.miss fun z hz e2=>e (by rw [findQ_one hu hz hx e2.2] at e2;exact e2.1)
  have hd:=h.delete hu hx
  rw [tdT,hf,Option.isSome_some,if_pos rfl] at hd
  rw [tmT,hf]
  simp only
  rw [if_neg (by simpa using e),hm,Option.isSome_none,if_neg (by simp)]
  have hm2:(Tr.del (x.2.1,x.1) T).root.fnd (v,x.1)=none:=hd.miss fun z hz e2=>by
   have:=(List.mem_filter.1 hz).2
   simp at this
   exact this e2.2
  obtain⟨g1,g2⟩:=hd.1.ins (v,x.1,B x.1) (fnd_none hd.1 hm2)
  refine⟨g1,?_⟩
  show (Tr.ins (v,x.1,(itR B x).2.2) (Tr.del (x.2.1,x.1) T).root).root.list.Perm _
  rw [show (itR B x).2.2=B x.1 from rfl,g2]
  refine (perm_insL _ _).trans ((List.Perm.cons _ hd.2).trans ?_)
  refine List.Perm.trans ?_ ((move_perm hu hx (x.1,v,w) rfl).map (itR B))
  rw [List.map_append]
  exact List.perm_append_comm (l₁:=[(v,x.1,B x.1)])
theorem HasR.sorted (h:HasR B L T) (hu:(L.map (·.1)).Nodup):T.list=(sortQ L).map (itR B):=by
 have hps:∀M:List Tk,(sortQ M).Perm M:=by
  have hi:∀(x:Tk) (M:List Tk),(insQ x M).Perm (x::M):=fun x M=>by
   induction M with
   |nil=>exact List.Perm.refl _
   |cons y M ih=>
    unfold insQ
    split
    ·exact (ih.cons y).trans (List.Perm.swap _ _ _)
    ·exact List.Perm.refl _
  have hf:∀(M out:List Tk),(M.foldl (fun out x=>insQ x out) out).Perm (M++out):=fun M=>by
   induction M with
   |nil=>exact fun out=>List.Perm.refl _
   |cons x M ih=>
    intro out
    refine (ih _).trans ?_
    refine ((hi x out).append_left M).trans ?_
    exact List.perm_middle
  intro M
  have:=hf M []
  simpa [sortQ] using this
 have hp:T.list.Perm ((sortQ L).map (itR B)):=h.2.trans ((hps L).symm.map _)
 refine List.Perm.eq_of_pairwise (le:=fun a b=>ordI (ky a) (ky b) < 0) ?_ h.1.so ?_ hp
 ·intro a b _ _ h1 h2
  have:=ord_flip (ky a) (ky b)
  omega
 ·rw [List.pairwise_map]
  have hs:=sort_sorted L
  have hus:((sortQ L).map (·.1)).Nodup:=((hps L).map _).nodup_iff.2 hu
  rw [List.nodup_iff_pairwise_ne,List.pairwise_map] at hus
  refine (hs.and hus).imp fun {a b} hab=>?_
  obtain⟨h1,h2⟩:=hab
  rw [ord_neg]
  rcases ltQ_not.1 h1 with h3|h3
  ·exact .inl h3
  ·simp only [itR]
   omega
end
end Go.Proofs.YtfmciiffcmfagaaGreat
