/-
  From, All: a loop over a tree of tasks; First.
  First: the first key of a tree of tasks, and its value.
  The program's queue in memory; what only reads it: clamp, find, running, V, Current, Floor, Len.
  The program's queue: clamp, find, running, V, Current, Floor, Len, least.
  The program's queue: the first ready one; least, Settle, Due.
  The program's queue: New, Back, Pick, Settle, Tick. (Made by gen_rpturn.py.)
-/
import Derived.Test.YtfmciiffcmfagaaGreatZAT
import Derived.Test.YtfmciiffcmfagaaGreatZAR
import Derived.Test.YtfmciiffcmfagaaGreatZAJ
import Derived.Test.YtfmciiffcmfagaaGreatZAF
import Derived.Test.YtfmciiffcmfagaaGreatZAB
import Derived.Test.YtfmciiffcmfagaaGreatZAl
set_option maxRecDepth 100000
set_option maxHeartbeats 25600000
namespace Go.Proofs.YtfmciiffcmfagaaGreat
open Go.RowKit
attribute [local go_sem] Oper.semAt_some
abbrev tNp:TypeId:=114
abbrev lowK:Value:= .agg #[.int .u64 0, .int .i64 (-9223372036854775808)]
abbrev allV (Bk Bf:Nat):Value:= .func (.func 102) #[] #[.pointer (some ⟨Bk,0,none⟩), .pointer (some ⟨Bf,0,none⟩)]
def KeptT (w:World) (Bk Bf:Nat) (t:Tr Nat):Prop:=
 ∃p,w.heap[Bk]?=some (.cells #[p] tNp (0,0))∧w.heap[Bf]?=some (.cells #[.int .u64 0, .int .i64 (-9223372036854775808)] tKy (0,0))∧TrAt w t p
theorem KeptT.keep {w w':World} {X:List Nat} {Bk Bf:Nat} {t:Tr Nat} (h:KeptT w Bk Bf t) (ht:Turned X w w') (hk:KeepsN w w') (h1:Bk ∉ X) (h2:Bf ∉ X):KeptT w' Bk Bf t:=by
 obtain⟨p,e1,e2,e3⟩:=h
 exact⟨p,ht.same e1 h1,ht.same e2 h2,e3.keep hk⟩
theorem KeptT.later {w w':World} {Bk Bf:Nat} {t:Tr Nat} (h:KeptT w Bk Bf t) (ht:Turned [] w w'):KeptT w' Bk Bf t:=h.keep ht ht.keepsN (by simp) (by simp)
theorem tall_seq {w:World} {Bk Bf:Nat} {t:Tr Nat} (h:KeptT w Bk Bf t) (hL:∀x ∈ t.list,KeyOk x):
  ∃Y:List Nat,(∀k ∈ Y,k < w.heap.size∧∃cs,w.heap[k]?=some (.cells cs tNd (0,0)))∧∀n,TurnSeqY Fence.wide n Tryz.prog 102 #[.pointer (some ⟨Bk,0,none⟩), .pointer (some ⟨Bf,0,none⟩)] encK Y [] (fun xs=>xs <+:t.list) (fun xs _ _=>xs=t.list) (fun xs _ _=>xs <+:t.list) w:=by
 obtain⟨p,h1,h2,h3⟩:=h
 obtain⟨Y,hY,hYc⟩:=h3.blocks
 refine⟨Y,fun k hk=>⟨by obtain⟨cs,hc⟩:=hYc k hk;exact lt_of_block hc,hYc k hk⟩,fun n=>?_⟩
 intro l J Jx W hW hJY hJxY hJ hJx hYi hj0
 have b0:=cell1 (hW.same h1 (by simp))
 have bf:=hW.same h2 (by simp)
 have f0:W.cell? ⟨Bf,0,none⟩=some (.int .u64 0):=by simp [World.cell?,bf]
 have f1:W.cell? ⟨Bf,1,none⟩=some (.int .i64 (-9223372036854775808)):=by simp [World.cell?,bf]
 have hT:TrIn Y W t p:=hY.same (SameAt.of_turned hW (fun k hk=>⟨by obtain⟨cs,hc⟩:=hYc k hk;exact lt_of_block hc,by simp⟩))
 have HK:=xhd (walk_any (L:=t.list) (W0:=W) hJ hJY hJxY hL hYi t p [] [] W hT hj0 (by simp) (by simp))
 obtain⟨ap,rfl⟩:=h3.shape
 clear hW hJY hJxY hJ hJx hYi hj0 h1 h2 h3 hY hYc bf hT
 refine callsIn_wide.2 ?_
 simp only [List.append_toArray,List.cons_append,List.nil_append]
 go_enter Tryz.func102,Tryz.ntmps102
 go_wp2_with fail
 with_reducible refine HK.out.mono ?_
 rintro e W' ⟨_,_,⟨rfl,Z,j,_⟩ |⟨rfl,xs,Z,j1,j2⟩⟩
 ·have R:Hid (J t.list Z W'):=xhd (by simpa using j)
  clear j HK
  go_wp2
  go_end0
  exact⟨⟨_,rfl⟩, .inl ⟨_,Z,rfl,R.out⟩⟩
 ·have R:=xhd (And.intro j1 j2)
  clear j1 j2 HK
  go_wp2
  go_end0
  exact⟨⟨_,rfl⟩, .inr ⟨xs,Z,R.out.1,R.out.2⟩⟩
theorem from_any {w:World} {b:Nat} {m:Int} {t:Tr Nat} (h:TAt w b m t):
  Calls Tryz.prog 94 #[.pointer (some ⟨b,0,none⟩),lowK] w fun e w'=>∃Bk Bf,e= .returned (allV Bk Bf)∧w.heap.size≤Bk∧w.heap.size≤Bf∧KeptT w' Bk Bf t∧Turned [] w w':=by
 obtain⟨W,hW⟩:∃W,w.alloc (.cells #[.int .u64 0, .int .i64 (-9223372036854775808)] tKy)=W:=⟨_,rfl⟩
 have TW:Turned [] w W:=hW ▸ (Turned.refl [] w).alloc _
 have BW:W.heap[w.heap.size]?=some (.cells #[.int .u64 0, .int .i64 (-9223372036854775808)] tKy (0,0)):=hW ▸ heap_alloc_new w _
 obtain⟨p,h1,h2,h3⟩:=h
 obtain⟨ap,rfl⟩:=h2.shape
 have T2:=TW.alloc (.cells #[.pointer ap] tNp)
 have K:KeptT (W.alloc (.cells #[.pointer ap] tNp)) W.heap.size w.heap.size t:=⟨_,heap_alloc_new W _,(Below.heap_alloc W _ _ (lt_of_block BW)).trans BW,h2.later T2⟩
 obtain⟨_,_,c2,_⟩:=tr_cells (TW.same h1 (by simp))
 have R:=xhd (And.intro TW.size (And.intro K T2))
 clear TW BW h1 h2 h3 T2 K
 go_enter Tryz.func94,Tryz.ntmps94
 go_wp2
 go_ret
 exact⟨_,_,rfl,R.out.1,Nat.le_refl _,R.out.2.1,R.out.2.2⟩
theorem tall_any {w:World} {b:Nat} {m:Int} {t:Tr Nat} (h:TAt w b m t):
  Calls Tryz.prog 79 #[.pointer (some ⟨b,0,none⟩)] w fun e w'=>∃Bk Bf,e= .returned (allV Bk Bf)∧w.heap.size≤Bk∧w.heap.size≤Bf∧KeptT w' Bk Bf t∧Turned [] w w':=by
 have HF:=xhd (from_any h)
 clear h
 go_enter Tryz.func79,Tryz.ntmps79
 go_wp2_with fail
 with_reducible refine HF.out.mono ?_
 rintro e w' ⟨Bk,Bf,rfl,h1⟩
 have R:=xhd h1
 clear h1
 go_wp2
 go_ret
 exact⟨Bk,Bf,rfl,R.out⟩
end Go.Proofs.YtfmciiffcmfagaaGreat
namespace Go.Proofs.YtfmciiffcmfagaaGreat
open Go.RowKit
attribute [local go_sem] Oper.semAt_some
abbrev tTp:TypeId:=80
def fstV (t:Tr Nat):Value:=match t.list with
 |[]=> .tuple #[.agg #[.int .u64 0, .int .i64 0], .pointer none, .bool false]
 |x::_=> .tuple #[.agg #[.int .u64 x.1, .int .i64 x.2.1], .pointer (some ⟨x.2.2,0,none⟩), .bool true]
structure FsB (w w2 V:World) (k1 k2:Int) (p:Value) (b:Bool) (Y Z:List Nat):Prop where
 t:Turned [] w V
 r0:V.heap[w.heap.size]?=some (.cells #[.int .u64 k1, .int .i64 k2] tKy (0,0))
 r1:V.heap[w.heap.size+1]?=some (.cells #[p] tTp (0,0))
 r2:V.heap[w.heap.size+2]?=some (.cells #[.bool b] 4 (0,0))
 ym:SameAt Y w2 V
 zm:∀k ∈ Z,w2.heap.size≤k∧k < V.heap.size
 sz:w2.heap.size≤V.heap.size
section
variable {w w2 A B:World} {k1 k2:Int} {p:Value} {b:Bool} {Y Z Z':List Nat}
theorem FsB.mild (h:FsB w w2 A k1 k2 p b Y Z) (m:Mild Z w2.heap.size A B) (hN:w.heap.size+3≤w2.heap.size) (hY:∀k ∈ Y,k < w2.heap.size) (hn:Newer Z A.heap.size Z') (hb:∀k ∈ Z',k < B.heap.size):FsB w w2 B k1 k2 p b Y Z':=by
 have off:∀k,k < w2.heap.size→k ∉ Z:=fun k hk hz=>by have:=(h.zm k hz).1;omega
 refine⟨h.t.mild m (by omega) (fun k hk=>by have:=(h.zm k hk).1;omega),m.cells h.r0 (off _ (by omega)),m.cells h.r1 (off _ (by omega)),m.cells h.r2 (off _ (by omega)),fun k hk=>?_,fun k hk=>⟨?_,hb k hk⟩,Nat.le_trans h.sz m.size⟩
 ·have h1:=hY k hk
  have h2:A.heap[k]?=some (A.heap[k]'(by have:=h.sz;omega)):=Array.getElem?_eq_getElem _
  rw [m.same k _ h2 (off k h1) (.inl h1), ←h2]
  exact h.ym k hk
 ·rcases hn k hk with h1|h1
  ·exact (h.zm k h1).1
  ·have:=h.sz;omega
theorem FsB.set (h:FsB w w2 A k1 k2 p b Y Z) (hY:∀k ∈ Y,k≠w.heap.size∧k≠w.heap.size+1∧k≠w.heap.size+2) (j1 j2:Int) (q:Value) (c:Bool):
  FsB w w2 ((((A.setCell ⟨w.heap.size,0,none⟩ (.int .u64 j1)).setCell ⟨w.heap.size,1,none⟩ (.int .i64 j2)).setCell ⟨w.heap.size+1,0,none⟩ q).setCell ⟨w.heap.size+2,0,none⟩ (.bool c)) j1 j2 q c Y Z:=by
 have T:=((((Turned.refl [w.heap.size,w.heap.size+1,w.heap.size+2] A).setCell (p:=⟨w.heap.size,0,none⟩) (.inl (by simp)) (.int .u64 j1)).setCell (p:=⟨w.heap.size,1,none⟩) (.inl (by simp)) (.int .i64 j2)).setCell (p:=⟨w.heap.size+1,0,none⟩) (.inl (by simp)) q).setCell (p:=⟨w.heap.size+2,0,none⟩) (.inl (by simp)) (.bool c)
 refine⟨h.t.trans' T (fun k hk=>by simp at hk;omega),?_,?_,?_,fun k hk=>?_,fun k hk=>?_,Nat.le_trans h.sz T.size⟩
 ·refine ((Below.heap_setCell _ _ _ _ (by simp)).trans (Below.heap_setCell _ _ _ _ (by simp))).trans ?_
  rw [heap_setCell_same _ _ _ _ _ _ (heap_setCell_same _ _ _ _ _ _ h.r0)]
  rfl
 ·refine (Below.heap_setCell _ _ _ _ (by simp)).trans ?_
  refine heap_setCell_same _ _ _ _ _ _ (((Below.heap_setCell _ _ _ _ (by simp)).trans (Below.heap_setCell _ _ _ _ (by simp))).trans h.r1)
 ·exact heap_setCell_same _ _ _ _ _ _ ((((Below.heap_setCell _ _ _ _ (by simp)).trans (Below.heap_setCell _ _ _ _ (by simp))).trans (Below.heap_setCell _ _ _ _ (by simp))).trans h.r2)
 ·obtain⟨y0,y1,y2⟩:=hY k hk
  exact ((((Below.heap_setCell _ _ _ k (by simp;omega)).trans (Below.heap_setCell _ _ _ k (by simp;omega))).trans (Below.heap_setCell _ _ _ k (by simp;omega))).trans (Below.heap_setCell _ _ _ k (by simp;omega))).trans (h.ym k hk)
 ·have:=h.zm k hk
  exact⟨this.1,Nat.lt_of_lt_of_le this.2 T.size⟩
end
theorem fst_result {fn:Func} {p1 p2 p3:Tmp} (hf:fn.results= #[.cell p1 tKy, .cell p2 tTp, .cell p3 4]) {tmps:Array Value} {w:World} {N:Nat} {k1 k2:Int} {v u:Value}
  (q1:tmps.getD p1 undef= .pointer (some ⟨N,0,none⟩)) (q2:tmps.getD p2 undef= .pointer (some ⟨N+1,0,none⟩)) (q3:tmps.getD p3 undef= .pointer (some ⟨N+2,0,none⟩))
  (h0:w.heap[N]?=some (.cells #[.int .u64 k1, .int .i64 k2] tKy (0,0))) (h1:w.heap[N+1]?=some (.cells #[v] tTp (0,0))) (h2:w.heap[N+2]?=some (.cells #[u] 4 (0,0))):
  (results fn tmps).run Tryz.prog w= .ok (.tuple #[.agg #[.int .u64 k1, .int .i64 k2],v,u]) w:=by
 have a0:w.cell? ⟨N,0,none⟩=some (.int .u64 k1):=by simp [World.cell?,h0]
 have a1:w.cell? ⟨N,1,none⟩=some (.int .i64 k2):=by simp [World.cell?,h0]
 have a2:=cell1 h1
 have a3:=cell1 h2
 have q1':tmps[p1]?.getD undef= .pointer (some ⟨N,0,none⟩):=by simpa using q1
 have q2':tmps[p2]?.getD undef= .pointer (some ⟨N+1,0,none⟩):=by simpa using q2
 have q3':tmps[p3]?.getD undef= .pointer (some ⟨N+2,0,none⟩):=by simpa using q3
 simp [results,hf,q1',q2',q3',loadVar,go_sem,a0,a1,a2,a3,asAddr,Sem.run_bind,Result.andThen]
theorem tfirst_any {w:World} {b:Nat} {m:Int} {t:Tr Nat} (h:TAt w b m t) (hL:∀x ∈ t.list,KeyOk x):
  Calls Tryz.prog 52 #[.pointer (some ⟨b,0,none⟩)] w fun e w'=>e= .returned (fstV t)∧Turned [] w w':=by
 obtain⟨N,hN⟩:∃N,w.heap.size=N:=⟨_,rfl⟩
 obtain⟨W,hW⟩:∃W,((w.alloc (.cells #[.int .u64 0, .int .i64 0] tKy)).alloc (.cells #[.pointer none] tTp)).alloc (.cells #[.bool false] 4)=W:=⟨_,rfl⟩
 have TW:Turned [] w W:=hW ▸ (((Turned.refl [] w).alloc _).alloc _).alloc _
 have e0:W.heap[w.heap.size]?=some (.cells #[.int .u64 0, .int .i64 0] tKy (0,0)):=by
  rw [←hW];exact ((Below.heap_alloc _ _ _ (by simp;omega)).trans (Below.heap_alloc _ _ _ (by simp))).trans (heap_alloc_new w _)
 have e1:W.heap[w.heap.size+1]?=some (.cells #[.pointer none] tTp (0,0)):=by
  have q:=heap_alloc_new (w.alloc (.cells #[.int .u64 0, .int .i64 0] tKy)) (.cells #[.pointer none] tTp)
  rw [show (w.alloc (.cells #[.int .u64 0, .int .i64 0] tKy)).heap.size=w.heap.size+1 by simp] at q
  rw [←hW];exact (Below.heap_alloc _ _ _ (by simp)).trans q
 have e2:W.heap[w.heap.size+2]?=some (.cells #[.bool false] 4 (0,0)):=by
  have q:=heap_alloc_new ((w.alloc (.cells #[.int .u64 0, .int .i64 0] tKy)).alloc (.cells #[.pointer none] tTp)) (.cells #[.bool false] 4)
  rw [show ((w.alloc (.cells #[.int .u64 0, .int .i64 0] tKy)).alloc (.cells #[.pointer none] tTp)).heap.size=w.heap.size+2 by simp] at q
  rw [←hW];exact q
 have hs3:w.heap.size+3≤W.heap.size:=lt_of_block e2
 have HA:=xhd (tall_any (h.later TW))
 have HE:=xhd (And.intro e0 (And.intro e1 e2))
 have HT:=xhd TW
 have HW:=xhd hW
 clear h hW TW e0 e1 e2
 refine callsIn_wide.1 (?_:CallsIn Fence.wide 20 _ _ _ _ _)
 refine callsIn_of_wp_marks Tryz.func52 rfl trivial ?_ rfl
 simp only [Tryz.ntmps52,List.size_toArray,List.length_cons,List.length_nil,Nat.reduceAdd,Nat.reduceSub,Array.replicate_succ,Array.replicate_zero,List.push_toArray,List.append_toArray,List.nil_append,List.cons_append]
 refine wpIn_wide.2 ?_
 rw [hN] at hs3
 go_wp2_with fail
 (try simp only [Nat.add_assoc,Nat.reduceAdd])
 rw [HW.out]
 with_reducible refine HA.out.mono ?_
 rintro e w2 ⟨Bk,Bf,rfl,hk1,hk2,hK,t2⟩
 obtain⟨Y,hY,hseq⟩:=tall_seq hK hL
 have hN3:w.heap.size+3≤w2.heap.size:=by have:=t2.size;omega
 have F0:FsB w w2 w2 0 0 (.pointer none) false Y []:=⟨HT.out.join t2,t2.same HE.out.1 (by simp),t2.same HE.out.2.1 (by simp),t2.same HE.out.2.2 (by simp),SameAt.refl _ _,fun k hk=>by simp at hk,Nat.le_refl _⟩
 have hYo:∀k ∈ Y,k≠w.heap.size∧k≠w.heap.size+1∧k≠w.heap.size+2:=fun k hk=>by
  obtain⟨_,cs,hc⟩:=hY k hk
  refine⟨fun e=>?_,fun e=>?_,fun e=>?_⟩
  ·rw [e,F0.r0] at hc;injection hc with hc;injection hc with _ hc;exact absurd hc (by decide)
  ·rw [e,F0.r1] at hc;injection hc with hc;injection hc with _ hc;exact absurd hc (by decide)
  ·rw [e,F0.r2] at hc;injection hc with hc;injection hc with _ hc;exact absurd hc (by decide)
 have hYl:∀k ∈ Y,k < w2.heap.size:=fun k hk=>(hY k hk).1
 have HF0:=xhd F0
 have HYO:=xhd hYo
 have HYL:=xhd hYl
 have HSQ:=xhd hseq
 have HN3:=xhd hN3
 have HNN:=xhd hN
 clear hk1 hk2 hK t2 hY hseq F0 hYo hYl hN3 hN hs3 HA HE HT HW
 go_wp2_with fail
 refine (wpIn_wide (n:=20)).1 ?_
 refine range_turnsY_boxed rfl (by omega) rfl trivial (fun _ _=>rfl) (Y:=Y) (X:=[]) (by simp) HYL.out (HSQ.out 19) (fun _=>rfl) (fun _ _ _ _ h _=>h) (fun _ _ _ _ h _=>h)
  (fun xs Z V=>xs=[]∧FsB w w2 V 0 0 (.pointer none) false Y Z)
  (fun c xs Z V=>c= .ret∧∃x,xs=[x]∧FsB w w2 V x.1 x.2.1 (.pointer (some ⟨x.2.2,0,none⟩)) true Y Z)
  (fun xs Z Z' A B h m hn hb=>⟨h.1,h.2.mild m HN3.out HYL.out hn hb⟩)
  (fun c xs Z Z' A B h m hn hb=>⟨h.1,by obtain⟨x,hx,hf⟩:=h.2;exact⟨x,hx,hf.mild m HN3.out HYL.out hn hb⟩⟩)
  ⟨rfl,HF0.out⟩ (fun _ _ _ h=>h.2.ym) (fun _ _ _ _ h=>by obtain⟨_,x,_,hf⟩:=h;exact hf.ym) (fun _ _ _ h=>⟨h.2.sz,fun k hk=>(h.2.zm k hk).2⟩) tKy (fun x=> #[.int .u64 x.1, .int .i64 x.2.1]) ?a1 ?assign ?body ?done ?stop
 case assign=>
  intro l' x Bb V K hBk hK
  gi_wp2
  exact hK
 case body=>
  rintro l' pre ⟨x1,x2,x3⟩ Z Bb V hbk hBk ⟨rfl,hI⟩ hsp
  simp only at hbk
  have k0:V.cell? ⟨Bb,0,none⟩=some (.int .u64 x1):=by simp [World.cell?,hbk]
  have k1:V.cell? ⟨Bb,1,none⟩=some (.int .i64 x2):=by simp [World.cell?,hbk]
  have b0:V.cell? ⟨N,0,none⟩=some (.int .u64 0):=by have:=hI.r0;rw [HNN.out] at this;simp [World.cell?,this]
  have b1:V.cell? ⟨N,1,none⟩=some (.int .i64 0):=by have:=hI.r0;rw [HNN.out] at this;simp [World.cell?,this]
  have b2:V.cell? ⟨N+1,0,none⟩=some (.pointer none):=by have:=hI.r1;rw [HNN.out] at this;simp [World.cell?,this]
  have b3:V.cell? ⟨N+2,0,none⟩=some (.bool false):=by have:=hI.r2;rw [HNN.out] at this;simp [World.cell?,this]
  have f0:V.frozen? ⟨N,0,none⟩=false:=by have:=hI.r0;rw [HNN.out] at this;exact frozen_of_row V N 0 _ _ this
  have f1:V.frozen? ⟨N,1,none⟩=false:=by have:=hI.r0;rw [HNN.out] at this;exact frozen_of_row V N 1 _ _ this
  have f2:V.frozen? ⟨N+1,0,none⟩=false:=by have:=hI.r1;rw [HNN.out] at this;exact frozen_of_row V (N+1) 0 _ _ this
  have f3:V.frozen? ⟨N+2,0,none⟩=false:=by have:=hI.r2;rw [HNN.out] at this;exact frozen_of_row V (N+2) 0 _ _ this
  have hS:=hI.set HYO.out x1 x2 (.pointer (some ⟨x3,0,none⟩)) true
  rw [HNN.out] at hS
  have hz:∀k ∈ Z,N+3≤k:=fun k hk=>by have h1:=(hI.zm k hk).1;have h2:=HN3.out;rw [HNN.out] at h2;omega
  have R:Hid (KeepsFrom w2.heap.size V ((((V.setCell ⟨N,0,none⟩ (.int .u64 x1)).setCell ⟨N,1,none⟩ (.int .i64 x2)).setCell ⟨N+1,0,none⟩ (.pointer (some ⟨x3,0,none⟩))).setCell ⟨N+2,0,none⟩ (.bool true))∧
    SameAt Z V ((((V.setCell ⟨N,0,none⟩ (.int .u64 x1)).setCell ⟨N,1,none⟩ (.int .i64 x2)).setCell ⟨N+1,0,none⟩ (.pointer (some ⟨x3,0,none⟩))).setCell ⟨N+2,0,none⟩ (.bool true))):=xhd ⟨((((KeepsOthers.setCell _ _ _).trans (KeepsOthers.setCell _ _ _)).trans (KeepsOthers.setCell _ _ _)).trans (KeepsOthers.setCell _ _ _)).from _,fun k hk=>by
   have:=hz k hk
   exact (((Below.heap_setCell _ _ _ k (by simp;omega)).trans (Below.heap_setCell _ _ _ k (by simp;omega))).trans (Below.heap_setCell _ _ _ k (by simp;omega))).trans (Below.heap_setCell _ _ _ k (by simp;omega))⟩
  have HS:=xhd hS
  clear hS hz hI hsp hbk hBk
  dsimp only
  gi_wp2
  exact⟨R.out.1,R.out.2,rfl,(x1,x2,x3),rfl,HS.out⟩
 case done=>
  rintro D xs Z V hD hz rfl ⟨hx,hI⟩ hK
  have b0:V.cell? ⟨N,0,none⟩=some (.int .u64 0):=by have:=hI.r0;rw [HNN.out] at this;simp [World.cell?,this]
  have b1:V.cell? ⟨N,1,none⟩=some (.int .i64 0):=by have:=hI.r0;rw [HNN.out] at this;simp [World.cell?,this]
  have b2:V.cell? ⟨N+1,0,none⟩=some (.pointer none):=by have:=hI.r1;rw [HNN.out] at this;simp [World.cell?,this]
  have b3:V.cell? ⟨N+2,0,none⟩=some (.bool false):=by have:=hI.r2;rw [HNN.out] at this;simp [World.cell?,this]
  have f0:V.frozen? ⟨N,0,none⟩=false:=by have:=hI.r0;rw [HNN.out] at this;exact frozen_of_row V N 0 _ _ this
  have f1:V.frozen? ⟨N,1,none⟩=false:=by have:=hI.r0;rw [HNN.out] at this;exact frozen_of_row V N 1 _ _ this
  have f2:V.frozen? ⟨N+1,0,none⟩=false:=by have:=hI.r1;rw [HNN.out] at this;exact frozen_of_row V (N+1) 0 _ _ this
  have f3:V.frozen? ⟨N+2,0,none⟩=false:=by have:=hI.r2;rw [HNN.out] at this;exact frozen_of_row V (N+2) 0 _ _ this
  have hS:=hI.set HYO.out 0 0 (.pointer none) false
  have HV:Hid (fstV t= .tuple #[.agg #[.int .u64 0, .int .i64 0], .pointer none, .bool false]):=xhd (by rw [fstV,hx])
  rw [HNN.out] at hS
  have HS:=xhd hS
  have HKD:Hid (((((V.setCell ⟨N,0,none⟩ (.int .u64 0)).setCell ⟨N,1,none⟩ (.int .i64 0)).setCell ⟨N+1,0,none⟩ (.pointer none)).setCell ⟨N+2,0,none⟩ (.bool false)).heap[D]?=some (.deferred (some []))):=xhd (by
   have h2:=HN3.out
   rw [HNN.out] at h2
   exact ((((Below.heap_setCell _ _ _ D (by simp;omega)).trans (Below.heap_setCell _ _ _ D (by simp;omega))).trans (Below.heap_setCell _ _ _ D (by simp;omega))).trans (Below.heap_setCell _ _ _ D (by simp;omega))).trans hK)
  have HD:Hid (N+3≤D):=xhd (by have:=HN3.out;rw [HNN.out] at this;omega)
  clear hS hI hK hx hz
  go_wp2
  refine⟨by simp, .inl ⟨_,_,rfl,run_takeDeferred HKD.out,?_⟩⟩
  have hd:=HD.out
  have HI:=HS.out
  have i0:=HI.r0
  have i1:=HI.r1
  have i2:=HI.r2
  rw [HNN.out] at i0 i1 i2
  refine⟨_,fst_result (N:=N) rfl rfl rfl rfl ((World.putObj_heap_other (by omega)).trans i0) ((World.putObj_heap_other (by omega)).trans i1) ((World.putObj_heap_other (by omega)).trans i2),?_,HI.t.put (by rw [HNN.out];omega) _⟩
  rw [HV.out]
 case stop=>
  rintro D c xs Z V hD hz hsx ⟨rfl,x,rfl,hI⟩ hK
  have HV:Hid (fstV t= .tuple #[.agg #[.int .u64 x.1, .int .i64 x.2.1], .pointer (some ⟨x.2.2,0,none⟩), .bool true]):=xhd (by
   obtain⟨r,hr⟩:=hsx
   rw [fstV, ←hr]
   rfl)
  have HD:w.heap.size+3≤D:=Nat.le_trans HN3.out hD
  refine wpIn_ret ?_
  simp only [Exit.inBlock]
  refine⟨by simp, .inl ⟨_,_,rfl,run_takeDeferred hK,?_⟩⟩
  refine⟨_,fst_result (N:=w.heap.size) rfl (by rw [HNN.out];rfl) (by rw [HNN.out];rfl) (by rw [HNN.out];rfl) ((World.putObj_heap_other (by omega)).trans hI.r0) ((World.putObj_heap_other (by omega)).trans hI.r1) ((World.putObj_heap_other (by omega)).trans hI.r2),?_,hI.t.put (by omega) _⟩
  rw [HV.out]
end Go.Proofs.YtfmciiffcmfagaaGreat
namespace Go.Proofs.YtfmciiffcmfagaaGreat
open Go.RowKit
attribute [local go_sem ↓] run_min_un run_max_un
abbrev tQu:TypeId:=82
abbrev tTk:TypeId:=90
abbrev tkC (x:Tk):Array Value:= #[.int .u64 x.2.1, .int .i64 x.1, .int .i64 x.2.2]
def curP (B:Int→Nat) (q:Rq):Option Addr:=if 0≤q.cur then some ⟨B q.cur,0,none⟩ else none
abbrev quC (q:Rq) (bt br:Nat) (cp:Option Addr) (r:Int):Array Value:= #[.int .i64 q.g, .int .u64 q.f, .pointer (some ⟨bt,0,none⟩), .pointer (some ⟨br,0,none⟩), .pointer cp, .int .i64 r]
structure RpI (w:World) (b:Nat) (q:Rq) (bt br:Nat) (T R:Tr Nat) (B:Int→Nat) (r:Int):Prop where
 h0:w.heap[b]?=some (.cells (quC q bt br (curP B q) r) tQu (0,0))
 h1:TAt w bt 16 T
 h2:TAt w br 16 R
 ht:HasT B q.l T
 hr:HasR B q.ready R
 k:∀x ∈ q.l,w.heap[B x.1]?=some (.cells (tkC x) tTk (0,0))
 inj:∀x ∈ q.l,∀y ∈ q.l,B x.1=B y.1→x.1=y.1
 rn:0≤q.cur→r=q.ran
 ne:bt≠br
def blocksQ (b bt br:Nat) (B:Int→Nat) (l:List Tk):List Nat:=b::bt::br::l.map fun x=>B x.1
def RpAt (w:World) (b:Nat) (X:List Nat) (q:Rq):Prop:=∃bt br T R B r,X=blocksQ b bt br B q.l∧RpI w b q bt br T R B r
theorem mem_blocksQ {b bt br k:Nat} {B:Int→Nat} {l:List Tk} :k ∈ blocksQ b bt br B l↔k=b∨k=bt∨k=br∨∃x ∈ l,B x.1=k:=by simp [blocksQ]
theorem cells6 {w:World} {b:Nat} {a0 a1 a2 a3 a4 a5:Value} {t:TypeId} (h:w.heap[b]?=some (.cells #[a0,a1,a2,a3,a4,a5] t (0,0))):
  (w.cell? ⟨b,0,none⟩=some a0∧w.cell? ⟨b,1,none⟩=some a1∧w.cell? ⟨b,2,none⟩=some a2∧w.cell? ⟨b,3,none⟩=some a3∧w.cell? ⟨b,4,none⟩=some a4∧w.cell? ⟨b,5,none⟩=some a5)∧∀i,w.frozen? ⟨b,i,none⟩=false:=
 ⟨⟨by simp [World.cell?,h],by simp [World.cell?,h],by simp [World.cell?,h],by simp [World.cell?,h],by simp [World.cell?,h],by simp [World.cell?,h]⟩,fun i=>frozen_of_row w b i _ _ h⟩
theorem cells3k {w:World} {b:Nat} {a0 a1 a2:Value} {t:TypeId} (h:w.heap[b]?=some (.cells #[a0,a1,a2] t (0,0))):
  (w.cell? ⟨b,0,none⟩=some a0∧w.cell? ⟨b,1,none⟩=some a1∧w.cell? ⟨b,2,none⟩=some a2)∧∀i,w.frozen? ⟨b,i,none⟩=false:=
 ⟨⟨by simp [World.cell?,h],by simp [World.cell?,h],by simp [World.cell?,h]⟩,fun i=>frozen_of_row w b i _ _ h⟩
theorem types_ne {w:World} {i j:Nat} {cs ds:Array Value} {t u:TypeId} (h:w.heap[i]?=some (.cells cs t (0,0))) (g:w.heap[j]?=some (.cells ds u (0,0))) (hn:t≠u):i≠j:=by
 rintro rfl
 rw [h] at g
 injection g with g
 injection g with _ g
 exact hn g
theorem keepsN_of {Y:List Nat} {w w':World} (h:Turned Y w w') (hY:∀k ∈ Y,∃cs t,w.heap[k]?=some (.cells cs t (0,0))∧t≠tNd):KeepsN w w':=
 KeepsN.of_turned h fun k hk cs e=>by
  obtain⟨ds,t,h1,h2⟩:=hY k hk
  exact absurd rfl (types_ne h1 e h2)
section
variable {w w':World} {b bt br:Nat} {q:Rq} {T R:Tr Nat} {B:Int→Nat} {r c:Int} {X Y:List Nat}
theorem RpI.bt0 (h:RpI w b q bt br T R B r):∃cs,w.heap[bt]?=some (.cells cs tTr (0,0)):=by
 obtain⟨p,e,_⟩:=h.h1
 exact⟨_,e⟩
theorem RpI.br0 (h:RpI w b q bt br T R B r):∃cs,w.heap[br]?=some (.cells cs tTr (0,0)):=by
 obtain⟨p,e,_⟩:=h.h2
 exact⟨_,e⟩
theorem RpI.nbt (h:RpI w b q bt br T R B r):b≠bt:=by
 obtain⟨cs,e⟩:=h.bt0
 exact types_ne h.h0 e (by decide)
theorem RpI.nbr (h:RpI w b q bt br T R B r):b≠br:=by
 obtain⟨cs,e⟩:=h.br0
 exact types_ne h.h0 e (by decide)
theorem RpI.nkb (h:RpI w b q bt br T R B r) {x:Tk} (hx:x ∈ q.l):B x.1≠b:=types_ne (h.k x hx) h.h0 (by decide)
theorem RpI.nkt (h:RpI w b q bt br T R B r) {x:Tk} (hx:x ∈ q.l):B x.1≠bt:=by
 obtain⟨cs,e⟩:=h.bt0
 exact types_ne (h.k x hx) e (by decide)
theorem RpI.nkr (h:RpI w b q bt br T R B r) {x:Tk} (hx:x ∈ q.l):B x.1≠br:=by
 obtain⟨cs,e⟩:=h.br0
 exact types_ne (h.k x hx) e (by decide)
theorem RpI.kinds (h:RpI w b q bt br T R B r):∀k ∈ blocksQ b bt br B q.l,∃cs t,w.heap[k]?=some (.cells cs t (0,0))∧t≠tNd:=fun k hk=>by
 rcases mem_blocksQ.1 hk with rfl|rfl|rfl|⟨x,hx,rfl⟩
 ·exact⟨_,_,h.h0,by decide⟩
 ·obtain⟨cs,e⟩:=h.bt0
  exact⟨_,_,e,by decide⟩
 ·obtain⟨cs,e⟩:=h.br0
  exact⟨_,_,e,by decide⟩
 ·exact⟨_,_,h.k x hx,by decide⟩
theorem RpI.keep (h:RpI w b q bt br T R B r) (ht:Turned Y w w') (hd:∀k ∈ blocksQ b bt br B q.l,k ∉ Y) (hk:KeepsN w w'):RpI w' b q bt br T R B r:=
 ⟨ht.same h.h0 (hd _ (mem_blocksQ.2 (.inl rfl))),h.h1.keep ht (hd _ (mem_blocksQ.2 (.inr (.inl rfl)))) hk,h.h2.keep ht (hd _ (mem_blocksQ.2 (.inr (.inr (.inl rfl))))) hk,h.ht,h.hr,
   fun x hx=>ht.same (h.k x hx) (hd _ (mem_blocksQ.2 (.inr (.inr (.inr ⟨x,hx,rfl⟩))))),h.inj,h.rn,h.ne⟩
theorem RpI.later (h:RpI w b q bt br T R B r) (ht:Turned [] w w'):RpI w' b q bt br T R B r:=h.keep ht (by simp) ht.keepsN
theorem curP_some (hq:QOk q c) (h0:0≤q.cur) (B:Int→Nat):∃x ∈ q.l,x.1=q.cur∧curP B q=some ⟨B x.1,0,none⟩:=by
 obtain⟨x,hx,e⟩:=hq.cur h0
 exact⟨x,hx,e,by rw [curP,if_pos h0,e]⟩
theorem curP_none (h0:¬0≤q.cur) (B:Int→Nat):curP B q=none:=by rw [curP,if_neg h0]
theorem rpWithin (n:Int) (w:World):Calls Tryz.prog 66 #[.int .i64 n] w fun e w'=>e= .returned (.int .i64 (bringR n 1 4096))∧w'=w:=by
 rw [←bring_minmax (show (1:Int)≤4096 by decide)]
 go_enter Tryz.func66,Tryz.ntmps66
 go_wp2
 go_ret
 exact⟨rfl,rfl⟩
theorem key_result {fn:Func} {p:Tmp} (hf:fn.results= #[.cell p tKy]) {tmps:Array Value} {w:World} {N:Nat} {k1 k2:Int} (hp:tmps.getD p undef= .pointer (some ⟨N,0,none⟩)) (h0:w.heap[N]?=some (.cells #[.int .u64 k1, .int .i64 k2] tKy (0,0))):
  (results fn tmps).run Tryz.prog w= .ok (.agg #[.int .u64 k1, .int .i64 k2]) w:=by
 have a0:w.cell? ⟨N,0,none⟩=some (.int .u64 k1):=by simp [World.cell?,h0]
 have a1:w.cell? ⟨N,1,none⟩=some (.int .i64 k2):=by simp [World.cell?,h0]
 have hp':tmps[p]?.getD undef= .pointer (some ⟨N,0,none⟩):=by simpa using hp
 simp [results,hf,hp',loadVar,go_sem,a0,a1,asAddr,Sem.run_bind,Result.andThen]
theorem rpByNumber (n:Int) (w:World):Calls Tryz.prog 67 #[.int .i64 n] w fun e w'=>e= .returned (.agg #[.int .u64 0, .int .i64 n])∧Turned [] w w':=by
 have HT:=xhd ((Turned.refl [] w).alloc (.cells #[.int .u64 0, .int .i64 n] tKy))
 have HC:=xhd (heap_alloc_new w (.cells #[.int .u64 0, .int .i64 n] tKy))
 go_enter Tryz.func67,Tryz.ntmps67
 go_wp2
 refine bodyPost_ret (key_result rfl rfl HC.out) rfl ?_
 exact⟨rfl,HT.out⟩
end
end Go.Proofs.YtfmciiffcmfagaaGreat
namespace Go.Proofs.YtfmciiffcmfagaaGreat
open Go.RowKit
attribute [local go_sem ↓] run_min_un run_max_un
section
variable {w w':World} {b bt br:Nat} {q:Rq} {T R:Tr Nat} {B:Int→Nat} {r c:Int} {X Y:List Nat}
theorem reach_bringP (n g:Int):reachR (bringR n 1 4096) g=reachR n g:=by
 unfold reachR coreR
 rw [show bringR (bringR n 1 4096) 1 4096=bringR n 1 4096 by
  have:=bring_range (n:=n) (lo:=1) (hi:=4096) (by decide)
  generalize bringR n 1 4096=k at this
  unfold bringR
  rw [if_neg (by omega),if_neg (by omega)]]
theorem place_bring (q:Rq) (v n:Int):q.place v (bringR n 1 4096)=q.place v n:=by rw [Rq.place,Rq.place,reach_bringP]
theorem reach_word (n g:Int):Word (reachR n g):=by
 have:=reach_range n g
 exact⟨by omega,by omega⟩
theorem rpClamp (h:RpI w b q bt br T R B r) (hf:Word q.f) (v n:Int):
  Calls Tryz.prog 65 #[.pointer (some ⟨b,0,none⟩), .int .u64 v, .int .i64 n] w fun e w'=>e= .returned (.int .u64 (q.place v n))∧∃k,w'=w.drewN k:=by
 obtain⟨⟨c0,c1,c2,c3,c4,c5⟩,_⟩:=cells6 h.h0
 have HR:=xhd (fun W=>ureach_any n q.g W)
 have HC:=xhd (fun W=>uclamp_any v q.f (reachR n q.g) hf (reach_word n q.g) W)
 rw [Rq.place]
 obtain⟨z,hz⟩:∃z,clampR v q.f (reachR n q.g)=z:=⟨_,rfl⟩
 obtain⟨y,hy⟩:∃y,reachR n q.g=y:=⟨_,rfl⟩
 rw [hz] at HC ⊢
 rw [hy] at HR HC
 clear h hf hz hy c2 c3 c4 c5
 go_enter Tryz.func65,Tryz.ntmps65
 go_wp2_with fail
 go_quiet (first|(go_at_call 91;exact Calls.quiet_of_same (HR.out _)) |(go_at_call 90;exact Calls.quiet_of_same (HC.out _)))
 go_wp2
 go_ret
 exact⟨rfl,_,rfl⟩
def findP (B:Int→Nat) (q:Rq) (id:Int):Option Addr:=if (findQ q.l id).isSome=true then some ⟨B id,0,none⟩ else none
theorem toV_find (h:HasT B q.l T) (id:Int):toV (T.fnd (0,id))= .pointer (findP B q id):=by
 rw [h.find id,findP]
 cases findQ q.l id<;>rfl
theorem rpFind (h:RpI w b q bt br T R B r) (id:Int):
  Calls Tryz.prog 68 #[.pointer (some ⟨b,0,none⟩), .int .i64 id] w fun e w'=>e= .returned (.pointer (findP B q id))∧Turned [] w w':=by
 have HB:=xhd (fun W=>rpByNumber id W)
 have HF:=xhd (fun W (ht:Turned [] w W)=>findT_any (h.h1.later ht) 0 id)
 rw [toV_find h.ht] at HF
 obtain⟨sb,hsb⟩:∃sb,(T.fnd (0,id)).isSome=sb:=⟨_,rfl⟩
 rw [hsb] at HF
 have HS:Hid (∀W,Turned [] w W→W.cell? ⟨b,2,none⟩=some (.pointer (some ⟨bt,0,none⟩))∧Turned [] w W):=xhd fun W ht=>⟨(cells6 (ht.same h.h0 (by simp))).1.2.2.1,ht⟩
 clear h hsb
 obtain⟨e2,et⟩:=HS.out _ (Turned.refl [] w).drew
 go_enter Tryz.func68,Tryz.ntmps68
 go_wp2_with fail
 go_region_held3 (fun W=>W.cell? ⟨b,2,none⟩=some (.pointer (some ⟨bt,0,none⟩))∧Turned [] w W)
  (first|exact⟨g2,gt⟩ |exact⟨f2,ft⟩ |exact⟨e2,et⟩)
  (first
    |(go_at_call 67
      with_reducible refine (HB.out _).mono ?_
      rintro e V ⟨rfl,t1⟩
      obtain⟨f2,ft⟩:=HS.out _ (et.join t1)
      clear t1)
    |(go_at_call 80
      with_reducible refine (HF.out _ ft).mono ?_
      rintro e V2 ⟨rfl,t2⟩
      obtain⟨g2,gt⟩:=HS.out _ (ft.join t2)
      clear t2))
 all_goals
  have GT:=xhd gt
  clear gt ft et
  go_wp2
  go_ret
  exact⟨rfl,GT.out⟩
theorem rpRunning (h:RpI w b q bt br T R B r):
  Calls Tryz.prog 54 #[.pointer (some ⟨b,0,none⟩)] w fun e w'=>e= .returned (.pointer (curP B q))∧w'=w:=by
 obtain⟨⟨c0,c1,c2,c3,c4,c5⟩,_⟩:=cells6 h.h0
 clear h
 go_enter Tryz.func54,Tryz.ntmps54
 go_wp2
 go_ret
 exact⟨rfl,rfl⟩
theorem rpFloor (h:RpI w b q bt br T R B r):
  Calls Tryz.prog 72 #[.pointer (some ⟨b,0,none⟩)] w fun e w'=>e= .returned (.int .u64 q.f)∧Turned [] w w':=by
 obtain⟨⟨c0,c1,c2,c3,c4,c5⟩,_⟩:=cells6 h.h0
 clear h
 go_enter Tryz.func72,Tryz.ntmps72
 go_wp2
 go_ret
 exact⟨rfl,Turned.refl _ _⟩
theorem rpLen (h:RpI w b q bt br T R B r):
  Calls Tryz.prog 64 #[.pointer (some ⟨b,0,none⟩)] w fun e w'=>e= .returned (.int .i64 (q.l.length:Nat))∧Turned [] w w':=by
 obtain⟨⟨c0,c1,c2,c3,c4,c5⟩,_⟩:=cells6 h.h0
 have HL:=xhd (len_any h.h1)
 rw [h.ht.len] at HL
 clear h
 go_enter Tryz.func64,Tryz.ntmps64
 go_wp2_with fail
 with_reducible refine HL.out.mono ?_
 rintro e V ⟨rfl,rfl⟩
 go_wp2
 go_ret
 exact⟨rfl,Turned.refl _ _⟩
theorem remV_some {id:Int} {x:Int×Int} (h:findQ q.l id=some x):remV q id=x.1:=by simp [remV,h]
theorem remV_none {id:Int} (h:findQ q.l id=none):remV q id=0:=by simp [remV,h]
theorem rpV (h:RpI w b q bt br T R B r) (id:Int):
  Calls Tryz.prog 62 #[.pointer (some ⟨b,0,none⟩), .int .i64 id] w fun e w'=>e= .returned (.tuple #[.int .u64 (remV q id), .bool (findQ q.l id).isSome])∧Turned [] w w':=by
 have HF:=xhd (rpFind h id)
 rw [findP] at HF
 have HK:=xhd h.k
 clear h
 cases hq:findQ q.l id with
 |none=>
  rw [remV_none hq]
  rw [hq,Option.isSome_none,if_neg (by simp)] at HF
  clear hq HK
  go_enter Tryz.func62,Tryz.ntmps62
  go_wp2_with fail
  with_reducible refine HF.out.mono ?_
  rintro e V ⟨rfl,t⟩
  have HT:=xhd t
  clear t
  go_wp2
  go_ret2
  exact⟨rfl,HT.out⟩
 |some x=>
  rw [remV_some hq]
  rw [hq,Option.isSome_some,if_pos rfl] at HF
  have hm:=HK.out _ (findQ_mem hq)
  obtain⟨x1,x2⟩:=x
  have HM:=xhd hm
  clear hm hq HK
  dsimp only
  go_enter Tryz.func62,Tryz.ntmps62
  go_wp2_with fail
  with_reducible refine HF.out.mono ?_
  rintro e V ⟨rfl,t⟩
  obtain⟨⟨k0,k1,k2⟩,_⟩:=cells3k (t.same HM.out (by simp))
  have HT:=xhd t
  clear t
  dsimp only at k0
  go_wp2
  go_ret2
  exact⟨rfl,HT.out⟩
theorem rpCurrent (h:RpI w b q bt br T R B r) (hq:QOk q c):
  Calls Tryz.prog 69 #[.pointer (some ⟨b,0,none⟩)] w fun e w'=>e= .returned (.tuple #[.int .i64 q.cur, .int .i64 q.ran, .bool (decide (0≤q.cur))])∧Turned [] w w':=by
 have HR:=xhd (rpRunning h)
 obtain⟨⟨c0,c1,c2,c3,c4,c5⟩,_⟩:=cells6 h.h0
 by_cases h0:0≤q.cur
 ·obtain⟨x,hx,e1,e2⟩:=curP_some hq h0 B
  obtain⟨⟨k0,k1,k2⟩,_⟩:=cells3k (h.k x hx)
  rw [e2] at HR
  rw [h.rn h0] at c5
  rw [show decide (0≤q.cur)=true by simpa using h0, ←e1]
  clear h hq h0 hx e1 e2 c4
  go_enter Tryz.func69,Tryz.ntmps69
  go_wp2_with fail
  with_reducible refine HR.out.mono ?_
  rintro e V ⟨rfl,rfl⟩
  go_wp2_with fail
  go_quiet (fail)
  go_wp2
  go_ret3
  exact⟨rfl,(Turned.refl _ _).drewN _⟩
 ·rw [curP_none h0 B] at HR
  obtain⟨i1,i2⟩:=hq.idle (by omega)
  rw [show decide (0≤q.cur)=false by simpa using h0,i1,i2]
  clear h hq h0 i1 i2 c4
  go_enter Tryz.func69,Tryz.ntmps69
  go_wp2_with fail
  with_reducible refine HR.out.mono ?_
  rintro e V ⟨rfl,rfl⟩
  go_wp2
  go_ret3
  exact⟨rfl,Turned.refl _ _⟩
end
end Go.Proofs.YtfmciiffcmfagaaGreat
namespace Go.Proofs.YtfmciiffcmfagaaGreat
open Go.RowKit
attribute [local go_sem ↓] run_min_un run_max_un
def lvQ (q:Rq):Int:=match q.l with
 |[]=>0
 |x::l=>minQ l x.2.1
theorem lvQ_of {q:Rq} {m:Int} (h1:∃y ∈ q.l,y.2.1=m) (h2:∀y ∈ q.l,m≤y.2.1):lvQ q=m:=by
 unfold lvQ
 cases hl:q.l with
 |nil=>rw [hl] at h1;obtain⟨y,hy,_⟩:=h1;cases hy
 |cons x l=>
  rw [hl] at h1 h2
  obtain⟨a,b⟩:=minQ_le l x.2.1
  have g:=minQ_ge l x.2.1 m (h2 x (by simp)) (fun y hy=>h2 y (List.mem_cons_of_mem _ hy))
  obtain⟨y,hy,e⟩:=h1
  have:minQ l x.2.1≤m:=by
   rcases List.mem_cons.1 hy with rfl|hy
   ·omega
   ·have:=b y hy;omega
  show minQ l x.2.1=m
  omega
theorem settle_max {q:Rq} (hf:Word q.f):q.settle.f=max q.f (lvQ q):=by
 have:=hf.1
 unfold Rq.settle lvQ
 cases q.l with
 |nil=>show q.f=max q.f 0;omega
 |cons x l=>
  show (if q.f < minQ l x.2.1 then minQ l x.2.1 else q.f)=max q.f (minQ l x.2.1)
  split<;>omega
theorem ready_sub {q:Rq} {y:Tk} (h:y ∈ q.ready):y ∈ q.l∧y.1≠q.cur:=by
 have:=List.mem_filter.1 h
 exact⟨this.1,by simpa using this.2⟩
theorem ready_or {q:Rq} {y:Tk} (h:y ∈ q.l) (hc:y.1≠q.cur):y ∈ q.ready:=List.mem_filter.2 ⟨h,by simpa using hc⟩
theorem head_least {l:List Tk} {y:Tk} {r:List Tk} (h:sortQ l=y::r):y ∈ l∧∀z ∈ l,y.2.1≤z.2.1:=by
 have hm:∀z,z ∈ sortQ l↔z ∈ l:=fun z=>mem_sort
 rw [h] at hm
 refine⟨(hm y).1 (by simp),fun z hz=>?_⟩
 have hs:=sort_sorted l
 rw [h] at hs
 rcases List.mem_cons.1 ((hm z).2 hz) with rfl|hz'
 ·omega
 ·have:=ltQ_not.1 ((List.pairwise_cons.1 hs).1 z hz')
  omega
section
variable {w w':World} {b bt br:Nat} {q:Rq} {T R:Tr Nat} {B:Int→Nat} {r c:Int} {X Y:List Nat}
def fstR (B:Int→Nat) (q:Rq):Value:=match sortQ q.ready with
 |[]=> .tuple #[.agg #[.int .u64 0, .int .i64 0], .pointer none, .bool false]
 |x::_=> .tuple #[.agg #[.int .u64 x.2.1, .int .i64 x.1], .pointer (some ⟨B x.1,0,none⟩), .bool true]
theorem RpI.first (h:RpI w b q bt br T R B r) (hq:QOk q c):Calls Tryz.prog 52 #[.pointer (some ⟨br,0,none⟩)] w fun e w'=>e= .returned (fstR B q)∧Turned [] w w':=by
 have hf:=tfirst_any h.h2 (h.hr.key (fun x hx=>hq.ids x (ready_sub hx).1) (fun x hx=>hq.v x (ready_sub hx).1))
 have e:fstV R=fstR B q:=by
  rw [fstV,fstR,h.hr.sorted (ready_nodup hq.uniq)]
  cases sortQ q.ready<;>rfl
 rw [e] at hf
 exact hf
theorem rpLeast (h:RpI w b q bt br T R B r) (hq:QOk q c):Calls Tryz.prog 78 #[.pointer (some ⟨b,0,none⟩)] w fun e w'=>e= .returned (.int .u64 (lvQ q))∧Turned [] w w':=by
 have HF:=xhd (h.first hq)
 obtain⟨⟨c0,c1,c2,c3,c4,c5⟩,_⟩:=cells6 h.h0
 have HS:Hid (∀W,Turned [] w W→W.cell? ⟨b,4,none⟩=some (.pointer (curP B q))∧b < W.heap.size):=xhd fun W ht=>⟨(cells6 (ht.same h.h0 (by simp))).1.2.2.2.2.1,Nat.lt_of_lt_of_le (lt_of_block h.h0) ht.size⟩
 rw [fstR] at HF
 by_cases h0:0≤q.cur
 ·obtain⟨x,hx,e1,e2⟩:=curP_some hq h0 B
  have HK:Hid (∀W,Turned [] w W→W.cell? ⟨B x.1,0,none⟩=some (.int .u64 x.2.1)∧B x.1 < W.heap.size):=xhd fun W ht=>⟨(cells3k (ht.same (h.k x hx) (by simp))).1.1,Nat.lt_of_lt_of_le (lt_of_block (h.k x hx)) ht.size⟩
  rw [e2] at HS
  cases hs:sortQ q.ready with
  |nil=>
   have hv:lvQ q=x.2.1:=lvQ_of ⟨x,hx,rfl⟩ fun y hy=>by
    by_cases e:y.1=q.cur
    ·rw [findQ_one hq.uniq hy hx (by omega)];omega
    ·have:=mem_sort.2 (ready_or hy e)
     rw [hs] at this
     cases this
   rw [hs] at HF
   rw [hv]
   clear h hq h0 e1 e2 hs hv hx c0 c1 c2 c4 c5
   go_enter Tryz.func78,Tryz.ntmps78
   go_wp2_with fail
   with_reducible refine HF.out.mono ?_
   rintro e V ⟨rfl,t⟩
   have HT:=xhd t
   obtain⟨s1,s2⟩:=HS.out V t
   obtain⟨k1,k2⟩:=HK.out V t
   have HT2:=xhd (t.alloc (.cells #[.int .u64 0, .int .i64 0] tKy))
   clear t
   go_wp2
   go_ret
   exact⟨rfl,HT2.out⟩
  |cons y ys=>
   obtain⟨g1,g2⟩:=head_least hs
   have hv:lvQ q=min y.2.1 x.2.1:=lvQ_of (by
    by_cases e:y.2.1≤x.2.1
    ·exact⟨y,(ready_sub g1).1,by omega⟩
    ·exact⟨x,hx,by omega⟩) fun z hz=>by
    by_cases e:z.1=q.cur
    ·rw [findQ_one hq.uniq hz hx (by omega)];omega
    ·have:=g2 z (ready_or hz e)
     omega
   rw [hs] at HF
   rw [hv]
   obtain⟨y1,y2,y3⟩:=y
   simp only at HF ⊢
   obtain⟨x1,x2,x3⟩:=x
   simp only at HK HS ⊢
   clear h hq h0 e1 e2 hs hv hx g1 g2 c0 c1 c2 c4 c5
   go_enter Tryz.func78,Tryz.ntmps78
   go_wp2_with fail
   with_reducible refine HF.out.mono ?_
   rintro e V ⟨rfl,t⟩
   have HT:=xhd t
   obtain⟨s1,s2⟩:=HS.out V t
   obtain⟨k1,k2⟩:=HK.out V t
   have HT2:=xhd (t.alloc (.cells #[.int .u64 y2, .int .i64 y1] tKy))
   clear t
   go_wp2_with fail
   go_quiet (fail)
   go_wp2
   go_ret
   exact⟨rfl,HT2.out.drewN _⟩
 ·rw [curP_none h0 B] at HS
  cases hs:sortQ q.ready with
  |nil=>
   have hv:lvQ q=0:=by
    unfold lvQ
    cases hl:q.l with
    |nil=>rfl
    |cons x l=>
     have hx:x ∈ q.l:=by rw [hl];simp
     have:=mem_sort.2 (ready_or hx (by have:=hq.ids x hx;omega))
     rw [hs] at this
     cases this
   rw [hs] at HF
   rw [hv]
   clear h hq h0 hs hv c0 c1 c2 c4 c5
   go_enter Tryz.func78,Tryz.ntmps78
   go_wp2_with fail
   with_reducible refine HF.out.mono ?_
   rintro e V ⟨rfl,t⟩
   obtain⟨s1,s2⟩:=HS.out V t
   have HT2:=xhd (t.alloc (.cells #[.int .u64 0, .int .i64 0] tKy))
   clear t
   go_wp2
   go_ret
   exact⟨rfl,HT2.out⟩
  |cons y ys=>
   obtain⟨g1,g2⟩:=head_least hs
   have hv:lvQ q=y.2.1:=lvQ_of ⟨y,(ready_sub g1).1,rfl⟩ fun z hz=>g2 z (ready_or hz (by have:=hq.ids z hz;omega))
   rw [hs] at HF
   rw [hv]
   obtain⟨y1,y2,y3⟩:=y
   simp only at HF ⊢
   clear h hq h0 hs hv g1 g2 c0 c1 c2 c4 c5
   go_enter Tryz.func78,Tryz.ntmps78
   go_wp2_with fail
   with_reducible refine HF.out.mono ?_
   rintro e V ⟨rfl,t⟩
   obtain⟨s1,s2⟩:=HS.out V t
   have HT2:=xhd (t.alloc (.cells #[.int .u64 y2, .int .i64 y1] tKy))
   clear t
   go_wp2
   go_ret
   exact⟨rfl,HT2.out⟩
end
end Go.Proofs.YtfmciiffcmfagaaGreat
namespace Go.Proofs.YtfmciiffcmfagaaGreat
open Go.RowKit
attribute [local go_sem ↓] run_min_un run_max_un
section
variable {w w':World} {b bt br:Nat} {q q':Rq} {T R R':Tr Nat} {B:Int→Nat} {r r' c:Int} {X Y:List Nat}
theorem RpI.store (h:RpI w b q bt br T R B r) (hl:q'.l=q.l) (ht:Turned [b,br] w w') (h0:w'.heap[b]?=some (.cells (quC q' bt br (curP B q') r') tQu (0,0))) (h2:TAt w' br 16 R') (hr:HasR B q'.ready R') (rn:0≤q'.cur→r'=q'.ran):
  RpI w' b q' bt br T R' B r':=by
 have hk:KeepsN w w':=keepsN_of ht fun k hk=>h.kinds k (by
  simp at hk
  rcases hk with rfl|rfl
  ·exact mem_blocksQ.2 (.inl rfl)
  ·exact mem_blocksQ.2 (.inr (.inr (.inl rfl))))
 refine⟨h0,h.h1.keep ht (by simp;exact⟨fun e=>h.nbt e.symm,h.ne⟩) hk,h2,by rw [hl];exact h.ht,hr,fun x hx=>?_,by rw [hl];exact h.inj,rn,h.ne⟩
 rw [hl] at hx
 exact ht.same (h.k x hx) (by simp;exact⟨h.nkb hx,h.nkr hx⟩)
theorem RpI.mem (h:RpI w b q bt br T R B r):∀k ∈ ([b,br]:List Nat),k ∈ blocksQ b bt br B q.l:=fun k hk=>by
 simp at hk
 rcases hk with rfl|rfl
 ·exact mem_blocksQ.2 (.inl rfl)
 ·exact mem_blocksQ.2 (.inr (.inr (.inl rfl)))
theorem RpI.lt (h:RpI w b q bt br T R B r):∀k ∈ blocksQ b bt br B q.l,k < w.heap.size:=fun k hk=>by
 obtain⟨cs,t,e,_⟩:=h.kinds k hk
 exact lt_of_block e
theorem RpI.len (h:RpI w b q bt br T R B r) (hq:QOk q c):T.list.length≤1000000∧R.list.length≤1000000:=by
 have h1:=h.ht.len
 have h2:=h.hr.len
 have h3:=hq.len
 have h4:q.ready.length≤q.l.length:=List.length_filter_le _ _
 omega
theorem rpNew (g:Int) (w:World):Calls Tryz.prog 31 #[.int .i64 g] w fun e w'=>∃b X,e= .returned (.pointer (some ⟨b,0,none⟩))∧RpAt w' b X (Rq.new g)∧Turned [] w w'∧∀k ∈ X,w.heap.size≤k:=by
 have HN:=xhd (fun W=>new_any 16 W)
 rw [show min (max (16:Int) 0) 4096=16 by decide] at HN
 have hb:=bring_minmax (n:=g) (show (1:Int)≤8 by decide)
 obtain⟨z,hz⟩:∃z,bringR g 1 8=z:=⟨_,rfl⟩
 rw [hz] at hb
 have HQ:Hid (Rq.new g=⟨z,0,[], -1,0⟩):=xhd (by rw [Rq.new,hz])
 rw [HQ.out]
 clear hz
 go_enter Tryz.func31,Tryz.ntmps31
 go_wp2_with fail
 (try rw [hb])
 with_reducible refine (HN.out _).mono ?_
 rintro e V1 ⟨rfl,a1,t1⟩
 have HA1:=xhd a1
 have HT1:=xhd t1
 clear a1 t1
 go_wp2_with fail
 with_reducible refine (HN.out _).mono ?_
 rintro e V2 ⟨rfl,a2,t2⟩
 have F:Hid (RpAt (V2.alloc (.cells #[.int .i64 z, .int .u64 0, .pointer (some ⟨w.heap.size,0,none⟩), .pointer (some ⟨V1.heap.size,0,none⟩), .pointer none, .int .i64 0] tQu)) V2.heap.size (blocksQ V2.heap.size w.heap.size V1.heap.size (fun _=>0) []) ⟨z,0,[], -1,0⟩∧
   Turned [] w (V2.alloc (.cells #[.int .i64 z, .int .u64 0, .pointer (some ⟨w.heap.size,0,none⟩), .pointer (some ⟨V1.heap.size,0,none⟩), .pointer none, .int .i64 0] tQu))∧w.heap.size≤V1.heap.size∧V1.heap.size≤V2.heap.size∧w.heap.size≠V1.heap.size):=xhd (by
  have ta:=(Turned.refl [] V2).alloc (.cells #[.int .i64 z, .int .u64 0, .pointer (some ⟨w.heap.size,0,none⟩), .pointer (some ⟨V1.heap.size,0,none⟩), .pointer none, .int .i64 0] tQu)
  have hne:w.heap.size≠V1.heap.size:=by have:=HA1.out.lt;omega
  exact⟨⟨w.heap.size,V1.heap.size, .nil, .nil,fun _=>0,0,rfl,⟨heap_alloc_new V2 _,(HA1.out.later t2).later ta,a2.later ta,⟨Tr.Good.nil,List.Perm.refl _⟩,⟨Tr.Good.nil,List.Perm.refl _⟩,fun x hx=>(by cases hx),fun x hx=>(by cases hx),fun hx=>(by have:(0:Int)≤ -1:=hx;omega),hne⟩⟩,(HT1.out.join t2).join ta,HT1.out.size,t2.size,hne⟩)
 clear a2 t2
 go_wp2
 go_ret
 refine⟨_,_,rfl,F.out.1,F.out.2.1,fun k hk=>?_⟩
 obtain⟨_,_,f1,f2,_⟩:=F.out
 rcases mem_blocksQ.1 hk with rfl|rfl|rfl|⟨x,hx,_⟩
 ·omega
 ·omega
 ·omega
 ·cases hx
theorem back_perm (hq:QOk q c) {x:Tk} (hx:x ∈ q.l) (e:x.1=q.cur):(q.ready++[x]).Perm q.back.ready:=by
 have h1:=move_perm hq.uniq hx x rfl
 have h2:(q.l.map fun z=>if z.1=x.1 then x else z)=q.l:=by
  conv=>rhs;rw [←List.map_id q.l]
  exact List.map_congr_left fun z hz=>by
   split
   ·next h=>exact (findQ_one hq.uniq hz hx h).symm
   ·rfl
 rw [h2] at h1
 have h3:q.back.ready=q.l:=List.filter_eq_self.2 fun z hz=>by
  have:=hq.ids z hz
  show decide (z.1≠(-1:Int))=true
  simp
  omega
 rw [h3,Rq.ready, ←e]
 exact h1
theorem rpBack (h:RpI w b q bt br T R B r) (hq:QOk q c):Calls Tryz.prog 23 #[.pointer (some ⟨b,0,none⟩)] w fun e w'=>e= .returned (.tuple #[.int .i64 q.cur, .bool (decide (0≤q.cur))])∧(∃R',RpI w' b q.back bt br T R' B r)∧Turned [b,br] w w':=by
 have HR:=xhd (rpRunning h)
 obtain⟨⟨c0,c1,c2,c3,c4,c5⟩,hfz⟩:=cells6 h.h0
 have f4:=hfz 4
 by_cases h0:0≤q.cur
 ·obtain⟨x,hx,e1,e2⟩:=curP_some hq h0 B
  rw [e2] at HR
  have hxn:∀y ∈ q.ready,y.1≠x.1:=fun y hy=>by rw [e1];exact (ready_sub hy).2
  have hlen:q.ready.length < 16:=by
   have h1:=(back_perm hq hx e1).length_eq
   have h2:q.back.ready.length≤q.l.length:=List.length_filter_le _ _
   have h3:=hq.len
   simp at h1
   omega
  obtain⟨W1,hW1⟩:∃W1,w.setCell ⟨b,4,none⟩ (.pointer none)=W1:=⟨_,rfl⟩
  have T1:Turned [b] w W1:=hW1 ▸ (Turned.refl [b] w).setCell (.inl (by simp)) _
  have B1:W1.heap[b]?=some (.cells (quC q.back bt br none r) tQu (0,0)):=by
   rw [←hW1,heap_setCell_same _ _ _ _ _ _ h.h0]
   rfl
  have N1:KeepsN w W1:=keepsN_of T1 fun k hk=>h.kinds k (by simp at hk;exact mem_blocksQ.2 (.inl hk))
  have A1:=h.h2.keep T1 (by simp;exact fun e=>h.nbr e.symm) N1
  have K1:=T1.same (h.k x hx) (by simp;exact h.nkb hx)
  obtain⟨D,hD⟩:∃D,W1.drew=D:=⟨_,rfl⟩
  have TD:Turned [] W1 D:=hD ▸ (Turned.refl [] W1).drew
  obtain⟨⟨d0,d1,d2,d3,d4,d5⟩,_⟩:=cells6 (TD.same B1 (by simp))
  obtain⟨⟨k0,k1,k2⟩,_⟩:=cells3k (TD.same K1 (by simp))
  have HI:=xhd (insert_any (A1.later TD) x.2.1 x.1 (B x.1) (h.len hq).2)
  have HK1:=xhd K1
  have HFIN:Hid (∀V,TAt V br 16 (tiT 16 R (x.2.1,x.1,B x.1))→Turned [br] D V→(∃R',RpI V b q.back bt br T R' B r)∧Turned [b,br] w V∧V.cell? ⟨B x.1,1,none⟩=some (.int .i64 x.1)):=xhd fun V a2 t2=>by
   have t3:Turned [b,br] w V:=(T1.mono (X:=[b,br]) (fun k hk=> .inl (by simp at hk;simp [hk]))).trans ((TD.mono (X:=[br]) (fun k hk=>by simp at hk)).trans t2 (Newer.refl _ _)) (fun k hk=> .inl (by simp at hk;simp [hk]))
   have hr2:HasR B q.back.ready (tiT 16 R (itR B x)):=(h.hr.insert hxn hlen).congr (back_perm hq hx e1)
   have hb2:V.heap[b]?=some (.cells (quC q.back bt br (curP B q.back) r) tQu (0,0)):=by
    rw [curP_none (show ¬0≤q.back.cur by show ¬(0:Int)≤ -1;omega) B]
    exact t2.same (TD.same B1 (by simp)) (by simp;exact h.nbr)
   exact⟨⟨_,h.store rfl t3 hb2 a2 hr2 (fun h=>by have:(0:Int)≤ -1:=h;omega)⟩,t3,(cells3k (t2.same (TD.same K1 (by simp)) (by simp;exact h.nkr hx))).1.2.1⟩
  rw [show decide (0≤q.cur)=true by simpa using h0, ←e1]
  have hblt:b < w.heap.size:=lt_of_block h.h0
  obtain⟨x1,x2,x3⟩:=x
  simp only at HI HFIN HR k0 k1 k2 ⊢
  clear h hq h0 e1 e2 hx hxn hlen T1 N1 A1 K1 HK1 TD B1 d4 hfz
  go_enter Tryz.func23,Tryz.ntmps23
  go_wp2_with fail
  with_reducible refine HR.out.mono ?_
  rintro e V ⟨rfl,rfl⟩
  go_wp2_with fail
  (try rw [hW1])
  refine wp_still_tail_at 9 hD (by kernel_rfl) (by kernel_rfl) ?_
  clear hD
  simp only [List.take_succ_cons,List.take_zero,List.drop_succ_cons,List.drop_zero]
  repeat still_step
  refine wpStill_nil ?_
  go_wp2_with fail
  with_reducible refine HI.out.mono ?_
  rintro e V2 ⟨rfl,a2,t2⟩
  obtain⟨f1,f2,f3⟩:=HFIN.out V2 a2 t2
  have F1:=xhd (And.intro f1 f2)
  clear a2 t2 f1 f2
  go_wp2
  go_ret2
  exact⟨rfl,F1.out⟩
 ·rw [curP_none h0 B] at HR
  obtain⟨i1,i2⟩:=hq.idle (by omega)
  have hb:q.back=q:=by
   obtain⟨g,f,l,cu,rn⟩:=q
   simp only at i1 i2
   subst i1 i2
   rfl
  rw [show decide (0≤q.cur)=false by simpa using h0,hb,i1]
  have H:=xhd h
  clear h hq h0 i1 i2 hb c4 hfz
  go_enter Tryz.func23,Tryz.ntmps23
  go_wp2_with fail
  with_reducible refine HR.out.mono ?_
  rintro e V ⟨rfl,rfl⟩
  go_wp2
  go_ret2
  exact⟨rfl,⟨R,H.out⟩,Turned.refl _ _⟩
theorem rpSettle (h:RpI w b q bt br T R B r) (hq:QOk q c):Calls Tryz.prog 51 #[.pointer (some ⟨b,0,none⟩)] w fun e w'=>e= .returned (.tuple #[])∧(∃R',RpI w' b q.settle bt br T R' B r)∧Turned [b,br] w w':=by
 have HL:=xhd (fun W (ht:Turned [] w W)=>rpLeast (h.later ht) hq)
 have HS:Hid (∀V,Turned [] w V→V.cell? ⟨b,1,none⟩=some (.int .u64 q.f)∧V.frozen? ⟨b,1,none⟩=false∧Turned [] w V):=xhd fun V ht=>by
  obtain⟨⟨_,c1,_⟩,hf⟩:=cells6 (ht.same h.h0 (by simp))
  exact⟨c1,hf 1,ht⟩
 obtain⟨p1,p2,p3,p4,p5⟩:=settle_ge q
 have HFIN:Hid (∀V,Turned [] w V→(∃R',RpI (V.setCell ⟨b,1,none⟩ (.int .u64 (max q.f (lvQ q)))) b q.settle bt br T R' B r)∧Turned [b,br] w (V.setCell ⟨b,1,none⟩ (.int .u64 (max q.f (lvQ q))))):=xhd fun V t1=>by
  have t2:Turned [b,br] w (V.setCell ⟨b,1,none⟩ (.int .u64 (max q.f (lvQ q)))):=(t1.mono (X:=[b,br]) (fun k hk=>by simp at hk)).setCell (.inl (by simp)) _
  have hb2:(V.setCell ⟨b,1,none⟩ (.int .u64 (max q.f (lvQ q)))).heap[b]?=some (.cells (quC q.settle bt br (curP B q.settle) r) tQu (0,0)):=by
   have e:quC q.settle bt br (curP B q.settle) r= #[.int .i64 q.g, .int .u64 q.settle.f, .pointer (some ⟨bt,0,none⟩), .pointer (some ⟨br,0,none⟩), .pointer (curP B q), .int .i64 r]:=by simp only [quC,curP,p2,p4]
   rw [e,heap_setCell_same _ _ _ _ _ _ (t1.same h.h0 (by simp)), ←settle_max hq.f]
   rfl
  have n2:=keepsN_of t2 fun k hk=>h.kinds k (h.mem k hk)
  have a2:=(h.h2.later t1).keep ((Turned.refl [b] V).setCell (p:=⟨b,1,none⟩) (.inl (by simp)) (.int .u64 (max q.f (lvQ q)))) (by simp;exact fun e=>h.nbr e.symm) (keepsN_of ((Turned.refl [b] V).setCell (p:=⟨b,1,none⟩) (.inl (by simp)) (.int .u64 (max q.f (lvQ q)))) fun k hk=>(h.later t1).kinds k (by simp at hk;exact mem_blocksQ.2 (.inl hk)))
  exact⟨⟨R,h.store p3 t2 hb2 a2 (by rw [Rq.ready,p3,p4];exact h.hr) (by rw [p4,p5];exact h.rn)⟩,t2⟩
 obtain⟨m,hm⟩:∃m,lvQ q=m:=⟨_,rfl⟩
 rw [hm] at HL HFIN
 clear h hq hm p1 p2 p3 p4 p5
 go_enter Tryz.func51,Tryz.ntmps51
 go_wp2_with fail
 have hmix:Tryz.prog.follows .mixedOrders=true:=by kernel_rfl
 refine wp_region_noPanic ?_
 refine wp_region_lastF (fun V=>V.cell? ⟨b,1,none⟩=some (.int .u64 q.f)∧V.frozen? ⟨b,1,none⟩=false∧Turned [] w V) 10 hmix (HS.out _ (Turned.refl [] w).drew) (fun hS0=>?_)
 refine wpAnyF_free (i:=0) (v:=?_) rfl (by kernel_rfl) (by decide) (fun _ _ _ h=>h) (by kernel_rfl) (by kernel_rfl) (Or.inl ⟨by rfl,?hy⟩) (by assumption) ?_
 case hy=>
  intro w _
  go_simp
  try with_reducible rfl
 try simp only [xga];try simp only [xgs];try simp only [xgz];try simp only [Act.put];try simp only [xsa];try simp only [xss];try simp only [xsz]
 refine wpAnyF_free (i:=1) (v:=?_) rfl (by kernel_rfl) (by decide) (fun _ _ _ h=>h) (by kernel_rfl) (by kernel_rfl) (Or.inl ⟨by rfl,?hy⟩) (by assumption) ?_
 case hy=>
  intro w _
  go_simp
  try with_reducible rfl
 try simp only [xga];try simp only [xgs];try simp only [xgz];try simp only [Act.put];try simp only [xsa];try simp only [xss];try simp only [xsz]
 refine wpAnyF_free (i:=2) (v:=?_) rfl (by kernel_rfl) (by decide) (fun _ _ _ h=>h) (by kernel_rfl) (by kernel_rfl) (Or.inl ⟨by rfl,?hy⟩) (by assumption) ?_
 case hy=>
  intro w _
  go_simp
  try with_reducible rfl
 try simp only [xga];try simp only [xgs];try simp only [xgz];try simp only [Act.put];try simp only [xsa];try simp only [xss];try simp only [xsz]
 refine wpAnyF_free (i:=3) (v:=?_) rfl (by kernel_rfl) (by decide) (fun _ _ _ h=>h) (by kernel_rfl) (by kernel_rfl) (Or.inl ⟨by rfl,?hy⟩) (by assumption) ?_
 case hy=>
  intro w _
  go_simp
  try with_reducible rfl
 try simp only [xga];try simp only [xgs];try simp only [xgz];try simp only [Act.put];try simp only [xsa];try simp only [xss];try simp only [xsz]
 refine wpAnyF_take (i:=4) (v:=?_) rfl (by kernel_rfl) (by kernel_rfl) (fun _ _ _ h=>h) (by kernel_rfl) (by kernel_rfl) (by kernel_rfl) (Or.inl ⟨by rfl,?hy⟩) (by assumption) ?_
 case hy=>
  intro w hSw
  (try dsimp only at hSw)
  obtain⟨s0,s1,s2⟩:=hSw
  go_simp
  try with_reducible rfl
 try simp only [xga];try simp only [xgs];try simp only [xgz];try simp only [Act.put];try simp only [xsa];try simp only [xss];try simp only [xsz]
 refine wpAnyF_free (i:=5) (v:=?_) rfl (by kernel_rfl) (by decide) (fun _ _ _ h=>h) (by kernel_rfl) (by kernel_rfl) (Or.inl ⟨by rfl,?hy⟩) (by assumption) ?_
 case hy=>
  intro w _
  go_simp
  try with_reducible rfl
 try simp only [xga];try simp only [xgs];try simp only [xgz];try simp only [Act.put];try simp only [xsa];try simp only [xss];try simp only [xsz]
 refine wpAnyF_ready (rs:=[6]) (by kernel_rfl) (by simp) ?_
 refine ReadyF.cons rfl (fun K' hK=>?_) ReadyF.nil
 go_simp
 with_reducible refine (HL.out _ (Turned.refl [] w).drew).mono ?_
 rintro e V ⟨rfl,t1⟩
 have T1:=xhd (((Turned.refl [] w).drew).join t1)
 clear t1
 have hS1:=HS.out _ T1.out
 go_wp2_with fail
 refine hK.out _ _ (.inr ?_) ?_
 ·exact hS1
 clear hK K'
 try simp only [xga];try simp only [xgs];try simp only [xgz];try simp only [Act.put];try simp only [xsa];try simp only [xss];try simp only [xsz]
 refine wpAnyF_free (i:=7) (v:=?_) rfl (by kernel_rfl) (by decide) (fun _ _ _ h=>h) (by kernel_rfl) (by kernel_rfl) (Or.inl ⟨by rfl,?hy⟩) (by assumption) ?_
 case hy=>
  intro w _
  go_simp
  try with_reducible rfl
 try simp only [xga];try simp only [xgs];try simp only [xgz];try simp only [Act.put];try simp only [xsa];try simp only [xss];try simp only [xsz]
 refine wpAnyF_free (i:=8) (v:=?_) rfl (by kernel_rfl) (by decide) (fun _ _ _ h=>h) (by kernel_rfl) (by kernel_rfl) (Or.inl ⟨by rfl,?hy⟩) (by assumption) ?_
 case hy=>
  intro w _
  go_simp
  try with_reducible rfl
 try simp only [xga];try simp only [xgs];try simp only [xgz];try simp only [Act.put];try simp only [xsa];try simp only [xss];try simp only [xsz]
 refine wpAnyF_free (i:=9) (v:=?_) rfl (by kernel_rfl) (by decide) (fun _ _ _ h=>h) (by kernel_rfl) (by kernel_rfl) (Or.inl ⟨by rfl,?hy⟩) (by assumption) ?_
 case hy=>
  intro w _
  go_simp
  try with_reducible rfl
 try simp only [xga];try simp only [xgs];try simp only [xgz];try simp only [Act.put];try simp only [xsa];try simp only [xss];try simp only [xsz]
 refine wpAnyF_ready (rs:=[10]) (by kernel_rfl) (by simp) ?_
 refine ReadyF.cons rfl (fun K' hK=>?_) ReadyF.nil
 go_simp
 refine hK.out _ _ (.inl (by kernel_rfl)) ?_
 clear hK K'
 try simp only [xga];try simp only [xgs];try simp only [xgz];try simp only [Act.put];try simp only [xsa];try simp only [xss];try simp only [xsz]
 refine wpAnyF_done (by kernel_rfl) ?_ _
 refine NoPanic.normal ?_
 try simp only [xga];try simp only [xgs];try simp only [xgz];try simp only [Act.put];try simp only [xsa];try simp only [xss];try simp only [xsz]
 have F:=HFIN.out _ T1.out
 have F1:=xhd F
 clear F
 go_wp2
 go_end0
 exact⟨rfl,F1.out⟩
end
end Go.Proofs.YtfmciiffcmfagaaGreat
