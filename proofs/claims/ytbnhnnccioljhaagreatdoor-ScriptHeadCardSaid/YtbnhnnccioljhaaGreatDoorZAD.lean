/-
  The program's reader: fail, take, need.
  The program's reader: number.
  The program's kindOf.
  The program's reader: op. (Made by gen_op.py.)
  The program's reader, plainly: what op and ops come to; op of any words.
  append onto a row of one's own: where the longer row lies. No program.
  The program's reader: ops.
  The program's reader: prog.
-/
import Derived.Test.YtbnhnnccioljhaaGreatDoorZAC
import Derived.Laws.StructEq
import Derived.IntWalk
import Derived.Test.YtbnhnnccioljhaaGreatDoorZAA
import Derived.OwnWalk
import Derived.ArgAppend
import Derived.Test.YtbnhnnccioljhaaGreatDoorZAl
set_option maxRecDepth 100000
set_option maxHeartbeats 25600000
namespace Go.Proofs.YtbnhnnccioljhaaGreatDoor
open Go.RowKit
abbrev StepP (v:Value) (w:World) (b:Nat) (ao:Option Addr) (n cap c:Nat) (e:Int) (r:Ending) (w':World):Prop:=
 r= .returned v∧w'.heap[b]?=some (.cells (rdC ao n cap c e) 116 (0,0))∧Turned [b] w w'
theorem rd_set1 {w:World} {b:Nat} {ao:Option Addr} {n cap c c':Nat} {e:Int} (h:w.heap[b]?=some (.cells (rdC ao n cap c e) 116 (0,0))):
  (w.setCell ⟨b,1,none⟩ (.int .i64 c')).heap[b]?=some (.cells (rdC ao n cap c' e) 116 (0,0)):=by
 rw [heap_setCell_same _ _ _ _ _ _ h]
 rfl
theorem rd_set2 {w:World} {b:Nat} {ao:Option Addr} {n cap c:Nat} {e e':Int} (h:w.heap[b]?=some (.cells (rdC ao n cap c e) 116 (0,0))):
  (w.setCell ⟨b,2,none⟩ (.int .i64 e')).heap[b]?=some (.cells (rdC ao n cap c e') 116 (0,0)):=by
 rw [heap_setCell_same _ _ _ _ _ _ h]
 rfl
theorem goes_live {w:World} {b:Nat} {ao:Option Addr} {n cap c:Nat} (h:w.heap[b]?=some (.cells (rdC ao n cap c 0) 116 (0,0))):
  Calls Tryz.prog 66 #[.pointer (some ⟨b,0,none⟩)] w fun r w'=>r= .returned (.bool true)∧w'=w:=by
 obtain⟨d0,d1,d2⟩:=three_cells h
 clear h
 go_enter Tryz.func66,Tryz.ntmps66
 go_wp2
 go_ret
 exact⟨rfl,rfl⟩
theorem goes_dead {w:World} {b:Nat} {ao:Option Addr} {n cap c:Nat} {e:Int} (he:e≠0) (h:w.heap[b]?=some (.cells (rdC ao n cap c e) 116 (0,0))):
  Calls Tryz.prog 66 #[.pointer (some ⟨b,0,none⟩)] w fun r w'=>r= .returned (.bool false)∧w'=w:=by
 obtain⟨d0,d1,d2⟩:=three_cells h
 have e0:(e == 0)=false:=by simpa using he
 clear h he
 go_enter Tryz.func66,Tryz.ntmps66
 go_wp2
 go_ret
 exact⟨rfl,rfl⟩
theorem fail_live {w:World} {b:Nat} {ao:Option Addr} {n cap c:Nat} (h:w.heap[b]?=some (.cells (rdC ao n cap c 0) 116 (0,0))) (k:Int):
  Calls Tryz.prog 138 #[.pointer (some ⟨b,0,none⟩), .int .i64 k] w (StepP (.tuple #[]) w b ao n cap c k):=by
 obtain⟨d0,d1,d2⟩:=three_cells h
 have f2:=not_frozen h 2
 have HS:=xhd (rd_set2 (e':=k) h)
 have HG:=xhd (goes_live h)
 clear h
 go_enter Tryz.func138,Tryz.ntmps138
 go_wp2_with fail
 with_reducible refine HG.out.mono ?_
 rintro r w ⟨rfl,rfl⟩
 go_wp2
 go_end0
 exact⟨rfl,HS.out,(Turned.refl _ w).setCell (.inl (by simp)) _⟩
theorem fail_dead {w:World} {b:Nat} {ao:Option Addr} {n cap c:Nat} {e:Int} (he:e≠0) (h:w.heap[b]?=some (.cells (rdC ao n cap c e) 116 (0,0))) (k:Int):
  Calls Tryz.prog 138 #[.pointer (some ⟨b,0,none⟩), .int .i64 k] w (StepP (.tuple #[]) w b ao n cap c e):=by
 obtain⟨d0,d1,d2⟩:=three_cells h
 have e0:(e == 0)=false:=by simpa using he
 have HH:=xhd h
 have HG:=xhd (goes_dead he h)
 clear h he
 go_enter Tryz.func138,Tryz.ntmps138
 go_wp2_with fail
 with_reducible refine HG.out.mono ?_
 rintro r w ⟨rfl,rfl⟩
 go_wp2
 go_end0
 exact⟨rfl,HH.out,Turned.refl _ w⟩
theorem text_eqb (a b:List By):((⟨a.toArray⟩:ByteArray).toList == (⟨b.toArray⟩:ByteArray).toList)=decide (a=b):=by
 rw [Lib.toList_data,Lib.toList_data,Bool.eq_iff_iff]
 simp
theorem eql_words (x y:Wd) (W:World):(Op.equalIn 10000 95 (wdV x) (wdV y)).run Tryz.prog W= .ok (decide (x=y)) W:=by
 obtain⟨a,b,c,d⟩:=x
 obtain⟨a',b',c',d'⟩:=y
 unfold wdV
 have h2:=text_eqb b b'
 obtain⟨t,ht⟩:∃t:ByteArray,⟨b.toArray⟩=t:=⟨_,rfl⟩
 obtain⟨t',ht'⟩:∃t:ByteArray,⟨b'.toArray⟩=t:=⟨_,rfl⟩
 simp only [ht,ht'] at h2 ⊢
 by_cases h1:a=a'
 ·subst h1
  by_cases hb:b=b'
  ·subst hb
   by_cases h3:c=c'
   ·subst h3
    by_cases h4:d=d'
    ·subst h4
     rw [decide_eq_true rfl] at h2 ⊢
     go_simp
    ·have e:decide ((a,b,c,d)=((a,b,c,d'):Wd))=false:=by simp [h4]
     rw [e]
     have q:(d == d')=false:=by simpa using h4
     go_simp
   ·have e:decide ((a,b,c,d)=((a,b,c',d'):Wd))=false:=by simp [h3]
    rw [e]
    have q:(c == c')=false:=by simpa using h3
    go_simp
  ·have e:decide ((a,b,c,d)=((a,b',c',d'):Wd))=false:=by simp [hb]
   rw [e]
   rw [decide_eq_false hb] at h2
   go_simp
 ·have e:decide ((a,b,c,d)=((a',b',c',d'):Wd))=false:=by simp [h1]
  rw [e]
  have q:(a == a')=false:=by simpa using h1
  go_simp
theorem neq_words (x y:Wd) (W:World):(binOp .neq 95 (wdV x) (wdV y)).run Tryz.prog W= .ok (.bool (!decide (x=y))) W:=by
 unfold wdV
 rw [run_neq_struct]
 have h:=eql_words x y W
 unfold wdV at h
 rw [h]
 rfl
theorem eq_words (x y:Wd) (W:World):(binOp .eql 95 (wdV x) (wdV y)).run Tryz.prog W= .ok (.bool (decide (x=y))) W:=by
 unfold wdV
 rw [run_eql_struct]
 have h:=eql_words x y W
 unfold wdV at h
 rw [h]
 rfl
theorem take_boxes {w:World} {b:Nat} {ao:Option Addr} {bw off cap:Nat} {L:List Wd} {c:Nat} {e:Int} (h:RdI w b ao bw off cap L c e) (x0 x1 x2 x3:Value):
  ∀V,Below (w.alloc (.cells #[x0,x1,x2,x3] 95)).heap.size (w.alloc (.cells #[x0,x1,x2,x3] 95)) V→
   (V.cell? ⟨b,2,none⟩=some (.int .i64 e)∧V.cell? ⟨w.heap.size,0,none⟩=some x0∧V.cell? ⟨w.heap.size,1,none⟩=some x1∧V.cell? ⟨w.heap.size,2,none⟩=some x2∧V.cell? ⟨w.heap.size,3,none⟩=some x3)∧RdI V b ao bw off cap L c e∧Below w.heap.size w V:=by
 intro V hV
 obtain⟨h1,h2⟩:=box_kept hV
 have h3:=h.below h2
 obtain⟨c0,c1,c2,c3⟩:=word_cells h1
 obtain⟨_,_,d2⟩:=three_cells h3.rd
 exact⟨⟨d2,c0,c1,c2,c3⟩,h3,h2⟩
theorem take_dead {w:World} {b:Nat} {ao:Option Addr} {bw off cap:Nat} {L:List Wd} {c:Nat} {e:Int} (h:RdI w b ao bw off cap L c e) (he:e≠0) (x:Wd):
  Calls Tryz.prog 177 #[.pointer (some ⟨b,0,none⟩),wdV x] w (StepP (.bool false) w b ao L.length cap c e):=by
 have HS:=xhd (take_boxes h (.int .i64 x.1) (.string ⟨x.2.1.toArray⟩) (.int .i64 x.2.2.1) (.int .i64 x.2.2.2))
 have HGD:=xhd (fun V hV=>goes_dead he (HS.out V hV).2.1.rd)
 unfold wdV
 clear h
 go_enter Tryz.func177,Tryz.ntmps177
 go_wp2_with fail
 go_quiet ((go_at_call 66;exact Calls.quiet_of_same (HGD.out _ (below_drewN (Below.refl _ _) _))))
 go_wp2
 go_ret
 have h2:=HS.out _ (below_drewN (Below.refl _ _) nq)
 exact⟨rfl,h2.2.1.rd,turned_below h2.2.2 _⟩
theorem taken_end {w:World} {b:Nat} {ao:Option Addr} {bw off cap:Nat} {L:List Wd} {c:Nat} (h:RdI w b ao bw off cap L c 0) (hc:L.length≤c) (x:Wd):
  Calls Tryz.prog 177 #[.pointer (some ⟨b,0,none⟩),wdV x] w (StepP (.bool false) w b ao L.length cap c 0):=by
 have HS:=xhd (take_boxes h (.int .i64 x.1) (.string ⟨x.2.1.toArray⟩) (.int .i64 x.2.2.1) (.int .i64 x.2.2.2))
 have HGD:=xhd (fun V hV=>goes_live (HS.out V hV).2.1.rd)
 have he:=fun V hV=>ends_any (HS.out V hV).2.1
 rw [decide_eq_true hc] at he
 have HED:=xhd he
 clear he
 obtain⟨n,hn⟩:∃n,L.length=n:=⟨_,rfl⟩
 obtain⟨d0,d1,d2⟩:=three_cells h.rd
 have hbl:=lt_of_block h.rd
 have HN:=xhd hn
 rw [hn] at hc d0 ⊢
 have hg:(n:Int)≤c:=by omega
 have hg2:decide ((n:Int)≤c)=true:=by simp;omega
 have hg3:decide (n≤c)=true:=by simp;omega
 unfold wdV
 clear h hn
 go_enter Tryz.func177,Tryz.ntmps177
 go_wp2_with fail
 go_quiet ((first|(go_at_call 66;exact Calls.quiet_of_same (HGD.out _ (below_drewN (Below.refl _ _) _))) |(go_at_call 135;exact Calls.quiet_of (HED.out _ (below_drewN (Below.refl _ _) _)))))
 go_wp2
 go_ret
 have h2:=HS.out _ (below_drewN (Below.refl _ _) nq)
 have h3:=h2.2.1.rd
 rw [HN.out] at h3
 exact⟨rfl,h3,turned_below h2.2.2 _⟩
theorem take_yes {w:World} {b:Nat} {ao:Option Addr} {bw off cap:Nat} {L:List Wd} {c:Nat} (h:RdI w b ao bw off cap L c 0) (hc:c < L.length) {x:Wd} (hx:nextR L c=x):
  Calls Tryz.prog 177 #[.pointer (some ⟨b,0,none⟩),wdV x] w (StepP (.bool true) w b ao L.length cap (c+1) 0):=by
 have HS:=xhd (take_boxes h (.int .i64 x.1) (.string ⟨x.2.1.toArray⟩) (.int .i64 x.2.2.1) (.int .i64 x.2.2.2))
 have HGL:=xhd (fun V hV=>goes_live (HS.out V hV).2.1.rd)
 have HN:=xhd (fun V hV=>next_any (HS.out V hV).2.1)
 have he:=fun V hV=>ends_any (HS.out V hV).2.1
 rw [decide_eq_false (by omega)] at he
 have HE:=xhd he
 clear he
 simp only [hx] at HN
 have hq:=fun W=>neq_words x x W
 rw [decide_eq_true rfl,Bool.not_true] at hq
 have hcl:c≤100000:=Nat.le_trans h.le h.len
 have hc1:((c+1:Nat):Int)=(c:Int)+1:=by omega
 have hcw:IntKind.i64.wrap ((c:Int)+1)=(c:Int)+1:=IntWalk.i64_in _ (by omega)
 have HC:=xhd hc1
 unfold wdV at hq HN ⊢
 obtain⟨tx,htx⟩:∃t:ByteArray,⟨x.2.1.toArray⟩=t:=⟨_,rfl⟩
 simp only [htx] at HS HGL HE HN hq ⊢
 obtain⟨x0,_,x2,x3⟩:=x
 simp only at HS HGL HE HN hq ⊢
 obtain⟨n,hn⟩:∃n,L.length=n:=⟨_,rfl⟩
 rw [hn] at hc ⊢
 have hg:¬(n:Int)≤c:=by omega
 have hg2:decide ((n:Int)≤c)=false:=by simp;omega
 have hg3:decide (n≤c)=false:=by simp;omega
 have HV:=xhd (fun (V:World) (hV:Below (w.alloc (.cells #[.int .i64 x0, .string tx, .int .i64 x2, .int .i64 x3] 95)).heap.size (w.alloc (.cells #[.int .i64 x0, .string tx, .int .i64 x2, .int .i64 x3] 95)) V)=>(by
  obtain⟨⟨_,a0,a1,a2,a3⟩,k,_⟩:=HS.out V hV
  obtain⟨d0,d1,_⟩:=three_cells k.rd
  rw [hn] at d0
  exact⟨d0,d1,a0,a1,a2,a3⟩:V.cell? ⟨b,0,none⟩=some (.slice ao n cap)∧V.cell? ⟨b,1,none⟩=some (.int .i64 c)∧V.cell? ⟨w.heap.size,0,none⟩=some (.int .i64 x0)∧V.cell? ⟨w.heap.size,1,none⟩=some (.string tx)∧V.cell? ⟨w.heap.size,2,none⟩=some (.int .i64 x2)∧V.cell? ⟨w.heap.size,3,none⟩=some (.int .i64 x3)))
 have HRD:=xhd (fun (V:World) (hV:Below (w.alloc (.cells #[.int .i64 x0, .string tx, .int .i64 x2, .int .i64 x3] 95)).heap.size (w.alloc (.cells #[.int .i64 x0, .string tx, .int .i64 x2, .int .i64 x3] 95)) V)=>(by
  have k:=(HS.out V hV).2.1.rd
  rw [hn] at k
  exact⟨k,(HS.out V hV).2.2⟩:V.heap[b]?=some (.cells (rdC ao n cap c 0) 116 (0,0))∧Below w.heap.size w V))
 clear h hx htx hc1 hn hc HS
 have HB0:=xhd ((Below.refl (w.alloc (.cells #[.int .i64 x0, .string tx, .int .i64 x2, .int .i64 x3] 95)).heap.size (w.alloc (.cells #[.int .i64 x0, .string tx, .int .i64 x2, .int .i64 x3] 95))).drew)
 have s0:=HV.out _ HB0.out
 go_enter Tryz.func177,Tryz.ntmps177
 go_wp2_with fail
 go_region_held3 (fun V=>V.cell? ⟨b,0,none⟩=some (.slice ao n cap)∧V.cell? ⟨b,1,none⟩=some (.int .i64 c)∧V.cell? ⟨w.heap.size,0,none⟩=some (.int .i64 x0)∧V.cell? ⟨w.heap.size,1,none⟩=some (.string tx)∧V.cell? ⟨w.heap.size,2,none⟩=some (.int .i64 x2)∧V.cell? ⟨w.heap.size,3,none⟩=some (.int .i64 x3))
  (first|exact s0|exact se|exact s1)
  (first
    |(go_at_call 66
      first
      |(with_reducible refine (HGL.out _ HB0.out).mono ?_;rintro r V1 ⟨rfl,rfl⟩)
      |(with_reducible refine (HGL.out _ HV1.out).mono ?_;rintro r V1 ⟨rfl,rfl⟩))
    |(go_at_call 135
      with_reducible refine (HE.out _ HB0.out).mono ?_
      rintro r V0 ⟨rfl,ne,hwe⟩
      have hbe:=below_drewN HB0.out ne
      rw [←hwe] at hbe
      have HBE:=xhd hbe
      have se:=HV.out _ HBE.out
      clear hwe hbe)
    |(go_at_call 137
      with_reducible refine (HN.out _ HBE.out).mono ?_
      rintro r V1 ⟨rfl,hb⟩
      have HV1:=xhd (HBE.out.trans (hb.mono HBE.out.size))
      have s1:=HV.out _ HV1.out
      clear hb))
 have hrd:=(HRD.out _ HV1.out).1
 obtain⟨d0,d1,d2⟩:=three_cells hrd
 have fd1:=not_frozen hrd 1
 have HR:=xhd (rd_set1 (c':=c+1) hrd)
 clear s0 se s1 hrd hq
 go_wp2
 go_ret
 have hR:=HR.out
 rw [HC.out] at hR
 exact⟨rfl,hR,(turned_below (HRD.out _ HV1.out).2 _).setCell (.inl (by simp)) _⟩
theorem take_no {w:World} {b:Nat} {ao:Option Addr} {bw off cap:Nat} {L:List Wd} {c:Nat} (h:RdI w b ao bw off cap L c 0) (hc:c < L.length) {x:Wd} (hx:nextR L c≠x):
  Calls Tryz.prog 177 #[.pointer (some ⟨b,0,none⟩),wdV x] w (StepP (.bool false) w b ao L.length cap c 0):=by
 have HS:=xhd (take_boxes h (.int .i64 x.1) (.string ⟨x.2.1.toArray⟩) (.int .i64 x.2.2.1) (.int .i64 x.2.2.2))
 have HGL:=xhd (fun V hV=>goes_live (HS.out V hV).2.1.rd)
 have HN:=xhd (fun V hV=>next_any (HS.out V hV).2.1)
 have he:=fun V hV=>ends_any (HS.out V hV).2.1
 rw [decide_eq_false (by omega)] at he
 have HE:=xhd he
 clear he
 have hq:=fun W=>neq_words (nextR L c) x W
 rw [decide_eq_false hx,Bool.not_false] at hq
 obtain⟨y,hy⟩:∃y,nextR L c=y:=⟨_,rfl⟩
 rw [hy] at hq hx
 simp only [hy] at HN
 unfold wdV at hq HN ⊢
 obtain⟨tx,htx⟩:∃t:ByteArray,⟨x.2.1.toArray⟩=t:=⟨_,rfl⟩
 obtain⟨ty,hty⟩:∃t:ByteArray,⟨y.2.1.toArray⟩=t:=⟨_,rfl⟩
 simp only [htx,hty] at HS HGL HE HN hq ⊢
 obtain⟨x0,_,x2,x3⟩:=x
 obtain⟨y0,_,y2,y3⟩:=y
 simp only at HS HGL HE HN hq ⊢
 obtain⟨n,hn⟩:∃n,L.length=n:=⟨_,rfl⟩
 rw [hn] at hc ⊢
 have hg:¬(n:Int)≤c:=by omega
 have hg2:decide ((n:Int)≤c)=false:=by simp;omega
 have hg3:decide (n≤c)=false:=by simp;omega
 have HV:=xhd (fun (V:World) (hV:Below (w.alloc (.cells #[.int .i64 x0, .string tx, .int .i64 x2, .int .i64 x3] 95)).heap.size (w.alloc (.cells #[.int .i64 x0, .string tx, .int .i64 x2, .int .i64 x3] 95)) V)=>(by
  obtain⟨⟨_,a0,a1,a2,a3⟩,k,_⟩:=HS.out V hV
  obtain⟨d0,d1,_⟩:=three_cells k.rd
  rw [hn] at d0
  exact⟨d0,d1,a0,a1,a2,a3⟩:V.cell? ⟨b,0,none⟩=some (.slice ao n cap)∧V.cell? ⟨b,1,none⟩=some (.int .i64 c)∧V.cell? ⟨w.heap.size,0,none⟩=some (.int .i64 x0)∧V.cell? ⟨w.heap.size,1,none⟩=some (.string tx)∧V.cell? ⟨w.heap.size,2,none⟩=some (.int .i64 x2)∧V.cell? ⟨w.heap.size,3,none⟩=some (.int .i64 x3)))
 have HRD:=xhd (fun (V:World) (hV:Below (w.alloc (.cells #[.int .i64 x0, .string tx, .int .i64 x2, .int .i64 x3] 95)).heap.size (w.alloc (.cells #[.int .i64 x0, .string tx, .int .i64 x2, .int .i64 x3] 95)) V)=>(by
  have k:=(HS.out V hV).2.1.rd
  rw [hn] at k
  exact⟨k,(HS.out V hV).2.2⟩:V.heap[b]?=some (.cells (rdC ao n cap c 0) 116 (0,0))∧Below w.heap.size w V))
 clear h hx hy htx hty hn hc HS
 have HB0:=xhd ((Below.refl (w.alloc (.cells #[.int .i64 x0, .string tx, .int .i64 x2, .int .i64 x3] 95)).heap.size (w.alloc (.cells #[.int .i64 x0, .string tx, .int .i64 x2, .int .i64 x3] 95))).drew)
 have s0:=HV.out _ HB0.out
 go_enter Tryz.func177,Tryz.ntmps177
 go_wp2_with fail
 go_region_held3 (fun V=>V.cell? ⟨b,0,none⟩=some (.slice ao n cap)∧V.cell? ⟨b,1,none⟩=some (.int .i64 c)∧V.cell? ⟨w.heap.size,0,none⟩=some (.int .i64 x0)∧V.cell? ⟨w.heap.size,1,none⟩=some (.string tx)∧V.cell? ⟨w.heap.size,2,none⟩=some (.int .i64 x2)∧V.cell? ⟨w.heap.size,3,none⟩=some (.int .i64 x3))
  (first|exact s0|exact se|exact s1)
  (first
    |(go_at_call 66
      first
      |(with_reducible refine (HGL.out _ HB0.out).mono ?_;rintro r V1 ⟨rfl,rfl⟩)
      |(with_reducible refine (HGL.out _ HV1.out).mono ?_;rintro r V1 ⟨rfl,rfl⟩))
    |(go_at_call 135
      with_reducible refine (HE.out _ HB0.out).mono ?_
      rintro r V0 ⟨rfl,ne,hwe⟩
      have hbe:=below_drewN HB0.out ne
      rw [←hwe] at hbe
      have HBE:=xhd hbe
      have se:=HV.out _ HBE.out
      clear hwe hbe)
    |(go_at_call 137
      with_reducible refine (HN.out _ HBE.out).mono ?_
      rintro r V1 ⟨rfl,hb⟩
      have HV1:=xhd (HBE.out.trans (hb.mono HBE.out.size))
      have s1:=HV.out _ HV1.out
      clear hb))
 clear s0 se s1 hq
 go_wp2
 go_ret
 exact⟨rfl,(HRD.out _ HV1.out).1,turned_below (HRD.out _ HV1.out).2 _⟩
theorem turned_box {w V w':World} {b:Nat} {X:Obj} (hV:V=w.alloc X) (h:Turned [b] V w'):Turned [b] w w':=by
 subst hV
 exact ((Turned.refl [b] w).alloc X).trans h (Newer.refl _ _)
theorem need_yes {w:World} {b:Nat} {ao:Option Addr} {bw off cap:Nat} {L:List Wd} {c:Nat} (h:RdI w b ao bw off cap L c 0) (hc:c < L.length) {x:Wd} (hx:nextR L c=x):
  Calls Tryz.prog 160 #[.pointer (some ⟨b,0,none⟩),wdV x] w (StepP (.tuple #[]) w b ao L.length cap (c+1) 0):=by
 have ht:=take_yes (h.below ((Below.refl _ w).alloc (Nat.le_refl _) (.cells #[.int .i64 x.1, .string ⟨x.2.1.toArray⟩, .int .i64 x.2.2.1, .int .i64 x.2.2.2] 95))) hc hx
 unfold wdV at ht ⊢
 obtain⟨tx,htx⟩:∃t:ByteArray,⟨x.2.1.toArray⟩=t:=⟨_,rfl⟩
 simp only [htx] at ht ⊢
 obtain⟨x0,_,x2,x3⟩:=x
 simp only at ht ⊢
 have HT:=xhd ht
 clear h hx htx ht
 go_enter Tryz.func160,Tryz.ntmps160
 go_wp2_with fail
 with_reducible refine HT.out.mono ?_
 rintro r w1 ⟨rfl,hr,ht⟩
 have HR:=xhd hr
 have HU:=xhd (turned_box rfl ht)
 clear hr ht
 go_wp2
 go_end0
 exact⟨rfl,HR.out,HU.out⟩
def failE (e k:Int):Int:=if e=0 then k else e
theorem fail_any {w:World} {b:Nat} {ao:Option Addr} {n cap c:Nat} {e:Int} (h:w.heap[b]?=some (.cells (rdC ao n cap c e) 116 (0,0))) (k:Int):
  Calls Tryz.prog 138 #[.pointer (some ⟨b,0,none⟩), .int .i64 k] w (StepP (.tuple #[]) w b ao n cap c (failE e k)):=by
 unfold failE
 by_cases he:e=0
 ·subst he
  rw [if_pos rfl]
  exact fail_live h k
 ·rw [if_neg he]
  exact fail_dead he h k
theorem take_fail {w:World} {b:Nat} {ao:Option Addr} {bw off cap:Nat} {L:List Wd} {c:Nat} {e:Int} (h:RdI w b ao bw off cap L c e) {x:Wd} (hx:e≠0∨nextR L c≠x):
  Calls Tryz.prog 177 #[.pointer (some ⟨b,0,none⟩),wdV x] w (StepP (.bool false) w b ao L.length cap c e):=by
 by_cases he:e=0
 ·subst he
  by_cases hc:c < L.length
  ·exact take_no h hc (by simpa using hx)
  ·exact taken_end h (by omega) x
 ·exact take_dead h he x
theorem need_no {w:World} {b:Nat} {ao:Option Addr} {bw off cap:Nat} {L:List Wd} {c:Nat} {e:Int} (h:RdI w b ao bw off cap L c e) {x:Wd} (hx:e≠0∨nextR L c≠x):
  Calls Tryz.prog 160 #[.pointer (some ⟨b,0,none⟩),wdV x] w (StepP (.tuple #[]) w b ao L.length cap c (failE e 5)):=by
 have ht:=take_fail (h.below ((Below.refl _ w).alloc (Nat.le_refl _) (.cells #[.int .i64 x.1, .string ⟨x.2.1.toArray⟩, .int .i64 x.2.2.1, .int .i64 x.2.2.2] 95))) hx
 unfold wdV at ht ⊢
 obtain⟨tx,htx⟩:∃t:ByteArray,⟨x.2.1.toArray⟩=t:=⟨_,rfl⟩
 simp only [htx] at ht ⊢
 obtain⟨x0,_,x2,x3⟩:=x
 simp only at ht ⊢
 have HT:=xhd ht
 clear h hx htx ht
 go_enter Tryz.func160,Tryz.ntmps160
 go_wp2_with fail
 with_reducible refine HT.out.mono ?_
 rintro r w1 ⟨rfl,hr,ht⟩
 have HF:=xhd (fail_any hr 5)
 have HU:=xhd (turned_box rfl ht)
 clear hr ht
 go_wp2_with fail
 with_reducible refine HF.out.mono ?_
 rintro r w2 ⟨rfl,hr,ht⟩
 have HR:=xhd hr
 have HU2:=xhd (HU.out.trans ht (Newer.refl _ _))
 clear hr ht
 go_wp2
 go_end0
 exact⟨rfl,HR.out,HU2.out⟩
def Clean (L:List Wd):Prop:=∀x ∈ L,(x.1≠2→x.2.2.1=0)∧(x.1=2→x.2.1=[])
theorem next_form (L:List Wd) (c:Nat):∃(k:Int) (t:List By) (m:Int),nextR L c=(k,t,m,0):=by
 unfold nextR
 split
 ·exact⟨_,_,_,rfl⟩
 ·exact⟨_,_,_,rfl⟩
theorem next_lt {L:List Wd} {c:Nat} (h:(nextR L c).1≠0):c < L.length:=by
 by_cases hc:c < L.length
 ·exact hc
 ·rw [next_end (by omega)] at h
  exact absurd rfl h
def rdnR (L:List Wd) (c:Nat) (lo hi:Int) (e:Int):Int×Nat×Int:=
 if e≠0 then (0,c,e) else match argR L c lo hi with
 | .ok (n,a)=>(n,a,0)
 | .error (a,k)=>(0,a,k)
theorem num_no {L:List Wd} (hL:Clean L) {c:Nat} {lo hi e:Int} (h:¬((nextR L c).1=2∧(nextR L c).2.1=[])):rdnR L c lo hi e=(0,c,failE e 5):=by
 unfold rdnR failE
 by_cases he:e=0
 ·rw [if_neg (by simpa using he),if_pos he]
  have:argR L c lo hi= .error (c,5):=by
   by_cases hc:c < L.length
   ·rw [next_at hc] at h
    simp only at h
    refine arg_kind hc (fun hk=>h ⟨hk,(hL _ (List.getElem_mem hc)).2 hk⟩)
   ·exact arg_none (by omega)
  rw [this]
 ·rw [if_pos he,if_neg he]
theorem num_out {L:List Wd} {c:Nat} {lo hi e n:Int} (h:nextR L c=(2,[],n,0)) (hn:¬(lo≤n∧n≤hi)):rdnR L c lo hi e=(0,c,failE e 1):=by
 unfold rdnR failE
 by_cases he:e=0
 ·rw [if_neg (by simpa using he),if_pos he]
  have hc:=next_lt (L:=L) (c:=c) (by rw [h];simp)
  rw [next_at hc] at h
  simp only [Prod.mk.injEq] at h
  rw [arg_range hc h.1 (by omega)]
 ·rw [if_pos he,if_neg he]
theorem num_ok {L:List Wd} {c:Nat} {lo hi n:Int} (h:nextR L c=(2,[],n,0)) (hn:lo≤n∧n≤hi):rdnR L c lo hi 0=(n,c+1,0):=by
 unfold rdnR
 rw [if_neg (by simp)]
 have hc:=next_lt (L:=L) (c:=c) (by rw [h];simp)
 rw [next_at hc] at h
 simp only [Prod.mk.injEq] at h
 rw [arg_ok hc h.1 (by omega),h.2.2.1]
theorem num_dead {L:List Wd} {c:Nat} {lo hi e:Int} (he:e≠0):rdnR L c lo hi e=(0,c,e):=by
 unfold rdnR
 rw [if_pos he]
abbrev NumP (v:Int) (w:World) (b:Nat) (ao:Option Addr) (n cap c:Nat) (e:Int):Ending→World→Prop:=StepP (.int .i64 v) w b ao n cap c e
theorem num_boxes {w:World} {b:Nat} {ao:Option Addr} {bw off cap:Nat} {L:List Wd} {c:Nat} {e:Int} (h:RdI w b ao bw off cap L c e) (X:Obj):
 RdI (w.alloc X) b ao bw off cap L c e:=h.below ((Below.refl _ w).alloc (Nat.le_refl _) _)
theorem num_boxes2 {w w1:World} {X Y:Obj} (hb:Below (w.alloc X).heap.size (w.alloc X) w1):
  ∀V,Below (w1.alloc Y).heap.size (w1.alloc Y) V→V.heap[w1.heap.size]?=some Y∧V.heap[w.heap.size]?=some X∧Below (w.alloc X).heap.size (w.alloc X) V∧w.heap.size < w1.heap.size:=by
 intro V hV
 have hl:w.heap.size < w1.heap.size:=lt_of_block (box_kept hb).1
 refine⟨(hV.block _ (by simp)).trans (heap_alloc_new _ _),(hV.block _ (by simp;omega)).trans ((Below.heap_alloc _ _ _ hl).trans (box_kept hb).1),?_,hl⟩
 exact (hb.alloc hb.size _).trans (hV.mono (by have:=hb.size;simp at this ⊢;omega))
theorem number_no {w:World} {b:Nat} {ao:Option Addr} {bw off cap:Nat} {L:List Wd} {c:Nat} {e:Int} (h:RdI w b ao bw off cap L c e) (hL:Clean L) (lo hi:Int) (hx:¬((nextR L c).1=2∧(nextR L c).2.1=[])):
  Calls Tryz.prog 161 #[.pointer (some ⟨b,0,none⟩), .agg #[.int .i64 lo, .int .i64 hi]] w (NumP (rdnR L c lo hi e).1 w b ao L.length cap (rdnR L c lo hi e).2.1 (rdnR L c lo hi e).2.2):=by
 rw [num_no hL hx]
 simp only
 have hf0:failE e 5≠0:=by
  unfold failE
  split
  ·decide
  ·next he=>exact he
 have HNX:=xhd (next_any (num_boxes h (.cells #[.int .i64 lo, .int .i64 hi] 149)))
 have HRD:=xhd (fun V (hV:Below (w.alloc (.cells #[.int .i64 lo, .int .i64 hi] 149)).heap.size (w.alloc (.cells #[.int .i64 lo, .int .i64 hi] 149)) V)=>(num_boxes h (.cells #[.int .i64 lo, .int .i64 hi] 149)).below hV)
 obtain⟨y0,ty,y2,hy⟩:=next_form L c
 rw [hy] at hx
 simp only [hy] at HNX
 have hq:=fun W=>neq_words (y0,ty,y2,0) (2,[],y2,0) W
 rw [decide_eq_false (by rintro he;simp only [Prod.mk.injEq] at he;exact hx ⟨he.1,he.2.1⟩),Bool.not_false] at hq
 unfold wdV at hq HNX
 simp only at hq HNX
 obtain⟨tb,htb⟩:∃t:ByteArray,⟨ty.toArray⟩=t:=⟨_,rfl⟩
 simp only [htb] at hq HNX
 have HPN:=xhd (fun n W=>pnum_any n W)
 have HAS:=xhd (fun W=>has_any lo hi y2 W)
 clear HAS
 have HLE:=xhd h.le
 have HBW:=xhd (lt_of_block h.rd)
 have htk:=fun V (hV:RdI V b ao bw off cap L c (failE e 5))=>take_dead hV hf0 (y0,ty,y2,0)
 unfold wdV at htk
 simp only [htb] at htk
 have HTK:=xhd htk
 clear htk
 obtain⟨e5,he5⟩:∃e5,failE e 5=e5:=⟨_,rfl⟩
 have HFL:=xhd (fun V (hV:RdI V b ao bw off cap L c e)=>fail_any hV.rd 5)
 simp only [he5] at HFL HTK ⊢
 clear hx hy he5 h htb hf0
 go_enter Tryz.func161,Tryz.ntmps161
 go_wp2_with fail
 with_reducible refine HNX.out.mono ?_
 rintro r w1 ⟨rfl,hb1⟩
 have HX:=xhd (num_boxes2 (Y:= .cells #[.int .i64 y0, .string tb, .int .i64 y2, .int .i64 0] 95) hb1)
 have HB0:=xhd ((Below.refl (w1.alloc (.cells #[.int .i64 y0, .string tb, .int .i64 y2, .int .i64 0] 95)).heap.size (w1.alloc (.cells #[.int .i64 y0, .string tb, .int .i64 y2, .int .i64 0] 95))).drew)
 have s0:=word_cells (HX.out _ HB0.out).1
 clear hb1
 go_wp2_with fail
 go_region_held3 (fun V=>V.cell? ⟨w1.heap.size,0,none⟩=some (.int .i64 y0)∧V.cell? ⟨w1.heap.size,1,none⟩=some (.string tb)∧V.cell? ⟨w1.heap.size,2,none⟩=some (.int .i64 y2)∧V.cell? ⟨w1.heap.size,3,none⟩=some (.int .i64 0))
  (first|exact s0|exact s1)
  (first
    |(go_at_call 91
      with_reducible refine (HPN.out _ _).mono ?_
      rintro r V1 ⟨rfl,hb⟩
      have HV1:=xhd (HB0.out.trans (hb.mono HB0.out.size))
      have s1:=word_cells (HX.out _ HV1.out).1
      clear hb))
 clear s0 s1 hq
 have hne:w1.heap.size ∉ [b]:=by
  have h1:=(HX.out _ HV1.out).2.2.2
  have h2:=HBW.out
  simp
  omega
 have HNE:=xhd hne
 clear hne
 have HR1:=xhd (HRD.out _ (HX.out _ HV1.out).2.2.1)
 go_wp2_with fail
 with_reducible refine (HFL.out _ HR1.out).mono ?_
 rintro r V3 ⟨rfl,hr,ht⟩
 have HR3:=xhd (HR1.out.turned ht hr HLE.out)
 have HW3:=xhd (ht.same (HX.out _ HV1.out).1 HNE.out)
 have HT3:=xhd ((turned_box rfl (turned_below (HX.out _ HV1.out).2.2.1 [b])).trans ht (Newer.refl _ _))
 clear hr ht
 obtain⟨d0,d1,d2,d3⟩:=word_cells HW3.out
 go_wp2_with fail
 with_reducible refine (HTK.out _ HR3.out).mono ?_
 rintro r V4 ⟨rfl,hr,ht⟩
 have HR4:=xhd hr
 have HT4:=xhd (HT3.out.trans ht (Newer.refl _ _))
 clear hr ht d0 d1 d2 d3
 go_wp2
 go_ret
 exact⟨rfl,HR4.out,HT4.out⟩
theorem number_out {w:World} {b:Nat} {ao:Option Addr} {bw off cap:Nat} {L:List Wd} {c:Nat} {e:Int} (h:RdI w b ao bw off cap L c e) (lo hi y2:Int) (hy:nextR L c=(2,[],y2,0)) (hn:¬(lo≤y2∧y2≤hi)):
  Calls Tryz.prog 161 #[.pointer (some ⟨b,0,none⟩), .agg #[.int .i64 lo, .int .i64 hi]] w (NumP (rdnR L c lo hi e).1 w b ao L.length cap (rdnR L c lo hi e).2.1 (rdnR L c lo hi e).2.2):=by
 rw [num_out hy hn]
 simp only
 have hf0:failE e 1≠0:=by
  unfold failE
  split
  ·decide
  ·next he=>exact he
 have HNX:=xhd (next_any (num_boxes h (.cells #[.int .i64 lo, .int .i64 hi] 149)))
 have HRD:=xhd (fun V (hV:Below (w.alloc (.cells #[.int .i64 lo, .int .i64 hi] 149)).heap.size (w.alloc (.cells #[.int .i64 lo, .int .i64 hi] 149)) V)=>(num_boxes h (.cells #[.int .i64 lo, .int .i64 hi] 149)).below hV)
 have hq:=fun W=>neq_words (2,[],y2,0) (2,[],y2,0) W
 rw [decide_eq_true rfl,Bool.not_true] at hq
 simp only [hy] at HNX
 unfold wdV at hq HNX
 simp only at hq HNX
 have HPN:=xhd (fun n W=>pnum_any n W)
 have HAS:=xhd (fun W=>has_any lo hi y2 W)
 rw [show (decide (lo≤y2)&&decide (y2≤hi))=false by rw [Bool.and_eq_false_iff,decide_eq_false_iff_not,decide_eq_false_iff_not];omega] at HAS
 have HLE:=xhd h.le
 have HBW:=xhd (lt_of_block h.rd)
 have htk:=fun V (hV:RdI V b ao bw off cap L c (failE e 1))=>take_dead hV hf0 (2,[],y2,0)
 unfold wdV at htk
 simp only at htk
 have HTK:=xhd htk
 clear htk
 obtain⟨e5,he5⟩:∃e5,failE e 1=e5:=⟨_,rfl⟩
 have HFL:=xhd (fun V (hV:RdI V b ao bw off cap L c e)=>fail_any hV.rd 1)
 simp only [he5] at HFL HTK ⊢
 clear hy he5 h hf0 hn
 go_enter Tryz.func161,Tryz.ntmps161
 go_wp2_with fail
 with_reducible refine HNX.out.mono ?_
 rintro r w1 ⟨rfl,hb1⟩
 have HX:=xhd (num_boxes2 (Y:= .cells #[.int .i64 2, .string ⟨#[]⟩, .int .i64 y2, .int .i64 0] 95) hb1)
 have HB0:=xhd ((Below.refl (w1.alloc (.cells #[.int .i64 2, .string ⟨#[]⟩, .int .i64 y2, .int .i64 0] 95)).heap.size (w1.alloc (.cells #[.int .i64 2, .string ⟨#[]⟩, .int .i64 y2, .int .i64 0] 95))).drew)
 have s0:=word_cells (HX.out _ HB0.out).1
 clear hb1
 go_wp2_with fail
 go_region_held3 (fun V=>V.cell? ⟨w1.heap.size,0,none⟩=some (.int .i64 2)∧V.cell? ⟨w1.heap.size,1,none⟩=some (.string ⟨#[]⟩)∧V.cell? ⟨w1.heap.size,2,none⟩=some (.int .i64 y2)∧V.cell? ⟨w1.heap.size,3,none⟩=some (.int .i64 0))
  (first|exact s0|exact s1)
  (first
    |(go_at_call 91
      with_reducible refine (HPN.out _ _).mono ?_
      rintro r V1 ⟨rfl,hb⟩
      have HV1:=xhd (HB0.out.trans (hb.mono HB0.out.size))
      have s1:=word_cells (HX.out _ HV1.out).1
      clear hb))
 clear s0 s1 hq
 have hne:w1.heap.size ∉ [b]:=by
  have h1:=(HX.out _ HV1.out).2.2.2
  have h2:=HBW.out
  simp
  omega
 have HNE:=xhd hne
 clear hne
 obtain⟨c0,c1⟩:=two_cells (HX.out _ HV1.out).2.1
 obtain⟨d0,d1,d2,d3⟩:=word_cells (HX.out _ HV1.out).1
 go_wp2_with fail
 with_reducible refine (HAS.out _).mono ?_
 rintro r V2 ⟨rfl,hb⟩
 have HV2:=xhd (HV1.out.trans (hb.mono HV1.out.size))
 have HR2:=xhd (HRD.out _ (HX.out _ HV2.out).2.2.1)
 clear hb c0 c1 d0 d1 d2 d3
 go_wp2_with fail
 with_reducible refine (HFL.out _ HR2.out).mono ?_
 rintro r V3 ⟨rfl,hr,ht⟩
 have HR3:=xhd (HR2.out.turned ht hr HLE.out)
 have HW3:=xhd (ht.same (HX.out _ HV2.out).1 HNE.out)
 have HT3:=xhd ((turned_box rfl (turned_below (HX.out _ HV2.out).2.2.1 [b])).trans ht (Newer.refl _ _))
 clear hr ht
 obtain⟨d0,d1,d2,d3⟩:=word_cells HW3.out
 go_wp2_with fail
 with_reducible refine (HTK.out _ HR3.out).mono ?_
 rintro r V4 ⟨rfl,hr,ht⟩
 have HR4:=xhd hr
 have HT4:=xhd (HT3.out.trans ht (Newer.refl _ _))
 clear hr ht d0 d1 d2 d3
 go_wp2
 go_ret
 exact⟨rfl,HR4.out,HT4.out⟩
theorem number_ok {w:World} {b:Nat} {ao:Option Addr} {bw off cap:Nat} {L:List Wd} {c:Nat} {e:Int} (h:RdI w b ao bw off cap L c e) (he:e=0) (lo hi y2:Int) (hy:nextR L c=(2,[],y2,0)) (hn:lo≤y2∧y2≤hi):
  Calls Tryz.prog 161 #[.pointer (some ⟨b,0,none⟩), .agg #[.int .i64 lo, .int .i64 hi]] w (NumP (rdnR L c lo hi e).1 w b ao L.length cap (rdnR L c lo hi e).2.1 (rdnR L c lo hi e).2.2):=by
 subst he
 rw [num_ok hy hn]
 simp only
 have HNX:=xhd (next_any (num_boxes h (.cells #[.int .i64 lo, .int .i64 hi] 149)))
 have HRD:=xhd (fun V (hV:Below (w.alloc (.cells #[.int .i64 lo, .int .i64 hi] 149)).heap.size (w.alloc (.cells #[.int .i64 lo, .int .i64 hi] 149)) V)=>(num_boxes h (.cells #[.int .i64 lo, .int .i64 hi] 149)).below hV)
 have hq:=fun W=>neq_words (2,[],y2,0) (2,[],y2,0) W
 rw [decide_eq_true rfl,Bool.not_true] at hq
 simp only [hy] at HNX
 unfold wdV at hq HNX
 simp only at hq HNX
 have HPN:=xhd (fun n W=>pnum_any n W)
 have HAS:=xhd (fun W=>has_any lo hi y2 W)
 rw [show (decide (lo≤y2)&&decide (y2≤hi))=true by rw [decide_eq_true hn.1,decide_eq_true hn.2];rfl] at HAS
 have HLE:=xhd h.le
 have HBW:=xhd (lt_of_block h.rd)
 have htk:=fun V (hV:RdI V b ao bw off cap L c 0)=>take_yes hV (next_lt (by rw [hy];simp)) hy
 unfold wdV at htk
 simp only at htk
 have HTK:=xhd htk
 clear htk hy h hn
 go_enter Tryz.func161,Tryz.ntmps161
 go_wp2_with fail
 with_reducible refine HNX.out.mono ?_
 rintro r w1 ⟨rfl,hb1⟩
 have HX:=xhd (num_boxes2 (Y:= .cells #[.int .i64 2, .string ⟨#[]⟩, .int .i64 y2, .int .i64 0] 95) hb1)
 have HB0:=xhd ((Below.refl (w1.alloc (.cells #[.int .i64 2, .string ⟨#[]⟩, .int .i64 y2, .int .i64 0] 95)).heap.size (w1.alloc (.cells #[.int .i64 2, .string ⟨#[]⟩, .int .i64 y2, .int .i64 0] 95))).drew)
 have s0:=word_cells (HX.out _ HB0.out).1
 clear hb1
 go_wp2_with fail
 go_region_held3 (fun V=>V.cell? ⟨w1.heap.size,0,none⟩=some (.int .i64 2)∧V.cell? ⟨w1.heap.size,1,none⟩=some (.string ⟨#[]⟩)∧V.cell? ⟨w1.heap.size,2,none⟩=some (.int .i64 y2)∧V.cell? ⟨w1.heap.size,3,none⟩=some (.int .i64 0))
  (first|exact s0|exact s1)
  (first
    |(go_at_call 91
      with_reducible refine (HPN.out _ _).mono ?_
      rintro r V1 ⟨rfl,hb⟩
      have HV1:=xhd (HB0.out.trans (hb.mono HB0.out.size))
      have s1:=word_cells (HX.out _ HV1.out).1
      clear hb))
 clear s0 s1 hq
 have hne:w1.heap.size ∉ [b]:=by
  have h1:=(HX.out _ HV1.out).2.2.2
  have h2:=HBW.out
  simp
  omega
 have HNE:=xhd hne
 clear hne
 obtain⟨c0,c1⟩:=two_cells (HX.out _ HV1.out).2.1
 obtain⟨d0,d1,d2,d3⟩:=word_cells (HX.out _ HV1.out).1
 go_wp2_with fail
 with_reducible refine (HAS.out _).mono ?_
 rintro r V2 ⟨rfl,hb⟩
 have HV2:=xhd (HV1.out.trans (hb.mono HV1.out.size))
 have HR2:=xhd (HRD.out _ (HX.out _ HV2.out).2.2.1)
 clear hb c0 c1 d0 d1 d2 d3
 obtain⟨d0,d1,d2,d3⟩:=word_cells (HX.out _ HV2.out).1
 go_wp2_with fail
 with_reducible refine (HTK.out _ HR2.out).mono ?_
 rintro r V4 ⟨rfl,hr,ht⟩
 have HR4:=xhd hr
 have HT4:=xhd ((turned_box rfl (turned_below (HX.out _ HV2.out).2.2.1 [b])).trans ht (Newer.refl _ _))
 have hw4:=ht.same (HX.out _ HV2.out).1 HNE.out
 clear hr ht d0 d1 d2 d3
 obtain⟨d0,d1,d2,d3⟩:=word_cells hw4
 clear hw4
 go_wp2
 go_ret
 exact⟨rfl,HR4.out,HT4.out⟩
theorem number_dead {w:World} {b:Nat} {ao:Option Addr} {bw off cap:Nat} {L:List Wd} {c:Nat} {e:Int} (h:RdI w b ao bw off cap L c e) (he:e≠0) (lo hi y2:Int) (hy:nextR L c=(2,[],y2,0)) (hn:lo≤y2∧y2≤hi):
  Calls Tryz.prog 161 #[.pointer (some ⟨b,0,none⟩), .agg #[.int .i64 lo, .int .i64 hi]] w (NumP (rdnR L c lo hi e).1 w b ao L.length cap (rdnR L c lo hi e).2.1 (rdnR L c lo hi e).2.2):=by
 rw [num_dead he]
 simp only
 have HNX:=xhd (next_any (num_boxes h (.cells #[.int .i64 lo, .int .i64 hi] 149)))
 have HRD:=xhd (fun V (hV:Below (w.alloc (.cells #[.int .i64 lo, .int .i64 hi] 149)).heap.size (w.alloc (.cells #[.int .i64 lo, .int .i64 hi] 149)) V)=>(num_boxes h (.cells #[.int .i64 lo, .int .i64 hi] 149)).below hV)
 have hq:=fun W=>neq_words (2,[],y2,0) (2,[],y2,0) W
 rw [decide_eq_true rfl,Bool.not_true] at hq
 simp only [hy] at HNX
 unfold wdV at hq HNX
 simp only at hq HNX
 have HPN:=xhd (fun n W=>pnum_any n W)
 have HAS:=xhd (fun W=>has_any lo hi y2 W)
 rw [show (decide (lo≤y2)&&decide (y2≤hi))=true by rw [decide_eq_true hn.1,decide_eq_true hn.2];rfl] at HAS
 have HLE:=xhd h.le
 have HBW:=xhd (lt_of_block h.rd)
 have htk:=fun V (hV:RdI V b ao bw off cap L c e)=>take_dead hV he (2,[],y2,0)
 unfold wdV at htk
 simp only at htk
 have HTK:=xhd htk
 clear htk hy h hn
 go_enter Tryz.func161,Tryz.ntmps161
 go_wp2_with fail
 with_reducible refine HNX.out.mono ?_
 rintro r w1 ⟨rfl,hb1⟩
 have HX:=xhd (num_boxes2 (Y:= .cells #[.int .i64 2, .string ⟨#[]⟩, .int .i64 y2, .int .i64 0] 95) hb1)
 have HB0:=xhd ((Below.refl (w1.alloc (.cells #[.int .i64 2, .string ⟨#[]⟩, .int .i64 y2, .int .i64 0] 95)).heap.size (w1.alloc (.cells #[.int .i64 2, .string ⟨#[]⟩, .int .i64 y2, .int .i64 0] 95))).drew)
 have s0:=word_cells (HX.out _ HB0.out).1
 clear hb1
 go_wp2_with fail
 go_region_held3 (fun V=>V.cell? ⟨w1.heap.size,0,none⟩=some (.int .i64 2)∧V.cell? ⟨w1.heap.size,1,none⟩=some (.string ⟨#[]⟩)∧V.cell? ⟨w1.heap.size,2,none⟩=some (.int .i64 y2)∧V.cell? ⟨w1.heap.size,3,none⟩=some (.int .i64 0))
  (first|exact s0|exact s1)
  (first
    |(go_at_call 91
      with_reducible refine (HPN.out _ _).mono ?_
      rintro r V1 ⟨rfl,hb⟩
      have HV1:=xhd (HB0.out.trans (hb.mono HB0.out.size))
      have s1:=word_cells (HX.out _ HV1.out).1
      clear hb))
 clear s0 s1 hq
 have hne:w1.heap.size ∉ [b]:=by
  have h1:=(HX.out _ HV1.out).2.2.2
  have h2:=HBW.out
  simp
  omega
 have HNE:=xhd hne
 clear hne
 obtain⟨c0,c1⟩:=two_cells (HX.out _ HV1.out).2.1
 obtain⟨d0,d1,d2,d3⟩:=word_cells (HX.out _ HV1.out).1
 go_wp2_with fail
 with_reducible refine (HAS.out _).mono ?_
 rintro r V2 ⟨rfl,hb⟩
 have HV2:=xhd (HV1.out.trans (hb.mono HV1.out.size))
 have HR2:=xhd (HRD.out _ (HX.out _ HV2.out).2.2.1)
 clear hb c0 c1 d0 d1 d2 d3
 obtain⟨d0,d1,d2,d3⟩:=word_cells (HX.out _ HV2.out).1
 go_wp2_with fail
 with_reducible refine (HTK.out _ HR2.out).mono ?_
 rintro r V4 ⟨rfl,hr,ht⟩
 have HR4:=xhd hr
 have HT4:=xhd ((turned_box rfl (turned_below (HX.out _ HV2.out).2.2.1 [b])).trans ht (Newer.refl _ _))
 have hw4:=ht.same (HX.out _ HV2.out).1 HNE.out
 clear hr ht d0 d1 d2 d3
 obtain⟨d0,d1,d2,d3⟩:=word_cells hw4
 clear hw4
 go_wp2
 go_ret
 exact⟨rfl,HR4.out,HT4.out⟩
theorem number_any {w:World} {b:Nat} {ao:Option Addr} {bw off cap:Nat} {L:List Wd} {c:Nat} {e:Int} (h:RdI w b ao bw off cap L c e) (hL:Clean L) (lo hi:Int):
  Calls Tryz.prog 161 #[.pointer (some ⟨b,0,none⟩), .agg #[.int .i64 lo, .int .i64 hi]] w (NumP (rdnR L c lo hi e).1 w b ao L.length cap (rdnR L c lo hi e).2.1 (rdnR L c lo hi e).2.2):=by
 by_cases hx:(nextR L c).1=2∧(nextR L c).2.1=[]
 ·obtain⟨k,t,n,hy⟩:=next_form L c
  rw [hy] at hx
  simp only at hx
  obtain⟨rfl,rfl⟩:=hx
  by_cases hn:lo≤n∧n≤hi
  ·by_cases he:e=0
   ·exact number_ok h he lo hi n hy hn
   ·exact number_dead h he lo hi n hy hn
  ·exact number_out h lo hi n hy hn
 ·exact number_no h hL lo hi hx
def kindQ (x:Wd):Nat:=if x.1=1∧x.2.2.1=0∧x.2.2.2=0 then kindT x.2.1 11 else 0
theorem kindT_none {t:List By} :∀n:Nat,(∀j:Nat,1≤j→j≤n→t≠nameR (j:Int))→kindT t n=0
 |0,_=>rfl
 |n+1,h=>by
  rw [kindT,if_neg (h (n+1) (by omega) (Nat.le_refl _))]
  exact kindT_none n (fun j h1 h2=>h j h1 (by omega))
theorem kindQ_hit {x:Wd} {n:Nat} (h1:1≤n) (h2:n≤11) (hx:x=(1,nameR (n:Int),0,0)):kindQ x=n:=by
 subst hx
 unfold kindQ
 rw [if_pos ⟨rfl,rfl,rfl⟩]
 have h:=(kind_name (names_all (k:=n) (by omega) h2)).1
 simp only at h ⊢
 omega
theorem kindQ_miss {x:Wd} (h:∀j:Nat,1≤j→j < 12→x≠(1,nameR (j:Int),0,0)):kindQ x=0:=by
 unfold kindQ
 split
 ·next hc=>
  refine kindT_none 11 (fun j h1 h2 e=>h j h1 (by omega) ?_)
  obtain⟨a,b,c,d⟩:=x
  simp only at hc e ⊢
  obtain⟨rfl,rfl,rfl⟩:=hc
  rw [e]
 ·rfl
theorem kindof_any (x:Wd) (w:World):
  Calls Tryz.prog 190 #[wdV x] w fun e w'=>e= .returned (.int .i64 (kindQ x:Nat))∧Below w.heap.size w w':=by
 have HHIT:=xhd (fun (n:Nat) (h1:1≤n) (h2:n≤11) (hx:x=(1,nameR (n:Int),0,0))=>kindQ_hit h1 h2 hx)
 have HMISS:=xhd (fun h=>kindQ_miss (x:=x) h)
 have HNM:=xhd (fun k W=>pnm_any k W)
 have HW:=xhd (fun s W=>pname_any s W)
 have HQ:=xhd (fun (n:Nat) W=>eq_words x (1,nameR (n:Int),0,0) W)
 obtain⟨q,hq⟩:∃q,kindQ x=q:=⟨_,rfl⟩
 rw [hq] at HHIT HMISS ⊢
 clear hq
 unfold wdV at HQ ⊢
 simp only at HQ
 have HX:Hid (∃tx:ByteArray,⟨x.2.1.toArray⟩=tx):=⟨_,rfl⟩
 obtain⟨tx,htx⟩:=HX.out
 simp only [htx] at HQ ⊢
 obtain⟨x0,hx0⟩:∃x0,x.1=x0:=⟨_,rfl⟩
 obtain⟨x2,hx2⟩:∃x0,x.2.2.1=x0:=⟨_,rfl⟩
 obtain⟨x3,hx3⟩:∃x0,x.2.2.2=x0:=⟨_,rfl⟩
 simp only [hx0,hx2,hx3] at HQ ⊢
 clear hx0 hx2 hx3 htx HX
 go_enter Tryz.func190,Tryz.ntmps190
 go_wp2_with fail
 go_loopw [3] (fun k' wr=>∃k:Nat,k'= .int .i64 k∧1≤k∧k≤12∧Hid (wr.heap[w.heap.size]?=some (.cells #[.int .i64 x0, .string tx, .int .i64 x2, .int .i64 x3] 95 (0,0))∧Below w.heap.size w wr)∧Hid (∀j:Nat,1≤j→j < k→x≠(1,nameR (j:Int),0,0))) (fun k' _=>12 - (intOf k').toNat)
 case atStart=>exact⟨1,rfl,by omega,by omega,⟨heap_alloc_new w _,(Below.refl _ w).alloc (Nat.le_refl _) _⟩,fun j h1 h2=>by omega⟩
 case round=>
  obtain⟨k,rfl,hk1,hk12,HB,HO⟩:=hrel
  by_cases hk:k≤11
  ·have hnm:=fun W=>HNM.out (k:Int) W
   obtain⟨tn,htn⟩:∃tn:ByteArray,⟨(nameR (k:Int)).toArray⟩=tn:=⟨_,rfl⟩
   have hqk:=fun W=>HQ.out k W
   simp only [htn] at hnm hqk
   have HNK:=xhd hnm
   have HWK:=xhd (fun W=>HW.out tn W)
   have HS:Hid (∀V,Below wr.heap.size wr V→V.cell? ⟨w.heap.size,0,none⟩=some (.int .i64 x0)∧V.cell? ⟨w.heap.size,1,none⟩=some (.string tx)∧V.cell? ⟨w.heap.size,2,none⟩=some (.int .i64 x2)∧V.cell? ⟨w.heap.size,3,none⟩=some (.int .i64 x3)):=
    xhd fun V hV=>word_cells ((hV.block _ (lt_of_block HB.out.1)).trans HB.out.1)
   have HB0:=xhd ((Below.refl wr.heap.size wr).drew)
   have s0:=HS.out _ HB0.out
   have hkw:IntKind.i64.wrap ((k:Int)+1)=(k:Int)+1:=IntWalk.i64_in _ (by omega)
   cases hd:decide (x=((1,nameR (k:Int),0,0):Wd)) with
   |true=>
    rw [hd] at hqk
    have HE:=xhd (HHIT.out k hk1 hk (of_decide_eq_true hd))
    clear hnm hd htn
    go_wp2_with fail
    go_region_held3 (fun V=>V.cell? ⟨w.heap.size,0,none⟩=some (.int .i64 x0)∧V.cell? ⟨w.heap.size,1,none⟩=some (.string tx)∧V.cell? ⟨w.heap.size,2,none⟩=some (.int .i64 x2)∧V.cell? ⟨w.heap.size,3,none⟩=some (.int .i64 x3))
     (first|exact s0|exact s1|exact s2)
     (first
       |(go_at_call 200
         with_reducible refine (HNK.out _).mono ?_
         rintro r V1 ⟨rfl,hb⟩
         have HV1:=xhd (HB0.out.trans (hb.mono HB0.out.size))
         have s1:=HS.out _ HV1.out
         clear hb)
       |(go_at_call 90
         with_reducible refine (HWK.out _).mono ?_
         rintro r V2 ⟨rfl,hb⟩
         have HV2:=xhd (HV1.out.trans (hb.mono HV1.out.size))
         have s2:=HS.out _ HV2.out
         clear hb))
    clear s0 s1 s2
    go_wp2
    go_ret
    rw [HE.out]
    exact⟨rfl,HB.out.2.trans (HV2.out.mono HB.out.2.size)⟩
   |false=>
    rw [hd] at hqk
    have hne:=of_decide_eq_false hd
    have HO2:Hid (∀j:Nat,1≤j→j < k+1→x≠(1,nameR (j:Int),0,0)):=xhd (fun j h1 h2=>by
     rcases Nat.lt_or_ge j k with h|h
     ·exact HO.out j h1 h
     ·have:j=k:=by omega
      subst this
      exact hne)
    clear hnm hd htn hne
    go_wp2_with fail
    go_region_held3 (fun V=>V.cell? ⟨w.heap.size,0,none⟩=some (.int .i64 x0)∧V.cell? ⟨w.heap.size,1,none⟩=some (.string tx)∧V.cell? ⟨w.heap.size,2,none⟩=some (.int .i64 x2)∧V.cell? ⟨w.heap.size,3,none⟩=some (.int .i64 x3))
     (first|exact s0|exact s1|exact s2)
     (first
       |(go_at_call 200
         with_reducible refine (HNK.out _).mono ?_
         rintro r V1 ⟨rfl,hb⟩
         have HV1:=xhd (HB0.out.trans (hb.mono HB0.out.size))
         have s1:=HS.out _ HV1.out
         clear hb)
       |(go_at_call 90
         with_reducible refine (HWK.out _).mono ?_
         rintro r V2 ⟨rfl,hb⟩
         have HV2:=xhd (HV1.out.trans (hb.mono HV1.out.size))
         have s2:=HS.out _ HV2.out
         clear hb))
    clear s0 s1 s2
    go_wp2
    go_roundw
    case rel=>exact⟨k+1,by go_num,by omega,by omega,⟨(HV2.out.block _ (lt_of_block HB.out.1)).trans HB.out.1,HB.out.2.trans (HV2.out.mono HB.out.2.size)⟩,HO2⟩
    case measure=>simp [intOf];omega
  ·have hk2:k=12:=by omega
   have HE:=xhd (HMISS.out (fun j h1 h2=>HO.out j h1 (by omega)))
   subst hk2
   go_wp2
   go_ret
   rw [HE.out]
   exact⟨rfl,HB.out.2⟩
def needQ (L:List Wd) (c:Nat) (e:Int) (x:Wd):Nat×Int:=if e=0∧nextR L c=x then (c+1,0) else (c,failE e 5)
theorem needQ_le {L:List Wd} {c:Nat} {e:Int} {x:Wd} (h:c≤L.length) (hx:x.1≠0):(needQ L c e x).1≤L.length:=by
 unfold needQ
 split
 ·next hh=>
  have:=next_lt (L:=L) (c:=c) (by rw [hh.2];exact hx)
  exact this
 ·exact h
theorem rdnR_le {L:List Wd} {c:Nat} {lo hi e:Int} (h:c≤L.length):(rdnR L c lo hi e).2.1≤L.length:=by
 unfold rdnR
 split
 ·exact h
 ·split
  ·next n a ha=>exact arg_le ha
  ·next a k ha=>
   simp only
   unfold argR at ha
   split at ha
   ·split at ha
    ·split at ha
     ·simp only [Except.error.injEq,Prod.mk.injEq] at ha;omega
     ·cases ha
    ·simp only [Except.error.injEq,Prod.mk.injEq] at ha;omega
   ·simp only [Except.error.injEq,Prod.mk.injEq] at ha;omega
theorem need_any {w:World} {b:Nat} {ao:Option Addr} {bw off cap:Nat} {L:List Wd} {c:Nat} {e:Int} (h:RdI w b ao bw off cap L c e) (x:Wd) (hx0:x.1≠0:=by simp):
  Calls Tryz.prog 160 #[.pointer (some ⟨b,0,none⟩),wdV x] w (StepP (.tuple #[]) w b ao L.length cap (needQ L c e x).1 (needQ L c e x).2):=by
 unfold needQ
 by_cases hh:e=0∧nextR L c=x
 ·rw [if_pos hh]
  obtain⟨rfl,hx⟩:=hh
  exact need_yes h (next_lt (by rw [hx];exact hx0)) hx
 ·rw [if_neg hh]
  exact need_no h (by
   by_cases he:e=0
   ·exact .inr fun hx=>hh ⟨he,hx⟩
   ·exact .inl he)
theorem op_res {fn:Func} {p:Tmp} (hf:fn.results= #[.cell p 142]) {tmps:Array Value} {w:World} {B:Nat} {a b c:Value} (hp:tmps.getD p undef= .pointer (some ⟨B,0,none⟩)) (h:w.heap[B]?=some (.cells #[a,b,c] 142 (0,0))):
  (results fn tmps).run Tryz.prog w= .ok (.agg #[a,b,c]) w:=by
 obtain⟨h0,h1,h2⟩:=op_cells h
 rw [results_one hf,hp]
 simp [loadVar,go_sem,h0,h1,h2]
theorem op_set {w:World} {B:Nat} {a b c a' b' c':Value} {t:TypeId} (h:w.heap[B]?=some (.cells #[a,b,c] t (0,0))):
  (((w.setCell ⟨B,0,none⟩ a').setCell ⟨B,1,none⟩ b').setCell ⟨B,2,none⟩ c').heap[B]?=some (.cells #[a',b',c'] t (0,0)):=by
 rw [heap_setCell_same _ _ _ _ _ _ (heap_setCell_same _ _ _ _ _ _ (heap_setCell_same _ _ _ _ _ _ h))]
 rfl
abbrev zeroO:Obj:= .cells #[.int .i64 0, .int .i64 0, .int .i64 0] 142
structure OpF (w V:World) (b S:Nat) (sh:Array Value) (k x y:Int) (rc:Array Value):Prop where
 res:V.heap[w.heap.size]?=some zeroO
 shp:V.heap[S]?=some (.cells sh 201 (0,0))
 opb:V.heap[S+1]?=some (.cells #[.int .i64 k, .int .i64 x, .int .i64 y] 142 (0,0))
 rd:V.heap[b]?=some (.cells rc 116 (0,0))
 tur:Turned [b] w V
 bw:b < w.heap.size
 sw:w.heap.size < S
theorem OpF.step {w V V':World} {b S:Nat} {sh:Array Value} {k x y:Int} {rc rc':Array Value} (h:OpF w V b S sh k x y rc) (t:Turned [b] V V') (hr:V'.heap[b]?=some (.cells rc' 116 (0,0))):OpF w V' b S sh k x y rc':=by
 have h1:=h.bw
 have h2:=h.sw
 exact⟨t.same h.res (by simp;omega),t.same h.shp (by simp;omega),t.same h.opb (by simp;omega),hr,h.tur.trans t (Newer.refl _ _),h1,h2⟩
theorem OpF.below {w V V':World} {b S:Nat} {sh:Array Value} {k x y:Int} {rc:Array Value} (h:OpF w V b S sh k x y rc) (hb:Below V.heap.size V V'):OpF w V' b S sh k x y rc:=
 h.step (turned_below hb [b]) ((hb.block _ (lt_of_block h.rd)).trans h.rd)
theorem OpF.setA {w V:World} {b S:Nat} {sh:Array Value} {k x y:Int} {rc:Array Value} (h:OpF w V b S sh k x y rc) (x':Int):OpF w (V.setCell ⟨S+1,1,none⟩ (.int .i64 x')) b S sh k x' y rc:=by
 have h1:=h.bw
 have h2:=h.sw
 refine⟨(Below.heap_setCell _ _ _ _ (by show w.heap.size≠S+1;omega)).trans h.res,(Below.heap_setCell _ _ _ _ (by show S≠S+1;omega)).trans h.shp,?_,(Below.heap_setCell _ _ _ _ (by show b≠S+1;omega)).trans h.rd,h.tur.setCell (.inr (by show w.heap.size≤S+1;omega)) _,h1,h2⟩
 rw [heap_setCell_same _ _ _ _ _ _ h.opb]
 rfl
theorem OpF.setB {w V:World} {b S:Nat} {sh:Array Value} {k x y:Int} {rc:Array Value} (h:OpF w V b S sh k x y rc) (y':Int):OpF w (V.setCell ⟨S+1,2,none⟩ (.int .i64 y')) b S sh k x y' rc:=by
 have h1:=h.bw
 have h2:=h.sw
 refine⟨(Below.heap_setCell _ _ _ _ (by show w.heap.size≠S+1;omega)).trans h.res,(Below.heap_setCell _ _ _ _ (by show S≠S+1;omega)).trans h.shp,?_,(Below.heap_setCell _ _ _ _ (by show b≠S+1;omega)).trans h.rd,h.tur.setCell (.inr (by show w.heap.size≤S+1;omega)) _,h1,h2⟩
 rw [heap_setCell_same _ _ _ _ _ _ h.opb]
 rfl
theorem OpF.start {w w3:World} {b:Nat} {sh:Array Value} {k:Int} {rc:Array Value} (hr:w.heap[b]?=some (.cells rc 116 (0,0))) (h:Below (w.alloc zeroO).heap.size (w.alloc zeroO) w3):
  OpF w ((w3.alloc (.cells sh 201)).alloc (.cells #[.int .i64 k, .int .i64 0, .int .i64 0] 142)) b w3.heap.size sh k 0 0 rc:=by
 obtain⟨h1,h2⟩:=box_kept h
 have hb:=lt_of_block hr
 have hl:=lt_of_block h1
 have hz:=heap_alloc_new (w3.alloc (.cells sh 201)) (.cells #[.int .i64 k, .int .i64 0, .int .i64 0] 142)
 rw [World.size_alloc] at hz
 exact⟨(Below.heap_alloc _ _ _ (by simp;omega)).trans ((Below.heap_alloc _ _ _ hl).trans h1),(Below.heap_alloc _ _ _ (by simp)).trans (heap_alloc_new _ _),hz,
  (Below.heap_alloc _ _ _ (by simp;omega)).trans ((Below.heap_alloc _ _ _ (by omega)).trans ((h2.block _ hb).trans hr)),((turned_below h2 [b]).alloc _).alloc _,hb,hl⟩
theorem OpF.fin {w V:World} {b S:Nat} {sh:Array Value} {k x y:Int} {rc:Array Value} (h:OpF w V b S sh k x y rc) (a' b' c':Value):
  (((V.setCell ⟨w.heap.size,0,none⟩ a').setCell ⟨w.heap.size,1,none⟩ b').setCell ⟨w.heap.size,2,none⟩ c').heap[w.heap.size]?=some (.cells #[a',b',c'] 142 (0,0))∧
  (((V.setCell ⟨w.heap.size,0,none⟩ a').setCell ⟨w.heap.size,1,none⟩ b').setCell ⟨w.heap.size,2,none⟩ c').heap[b]?=some (.cells rc 116 (0,0))∧
  Turned [b] w (((V.setCell ⟨w.heap.size,0,none⟩ a').setCell ⟨w.heap.size,1,none⟩ b').setCell ⟨w.heap.size,2,none⟩ c'):=by
 have hne:b≠w.heap.size:=by have:=h.bw;omega
 refine⟨op_set h.res,?_,((h.tur.setCell (.inr (Nat.le_refl _)) _).setCell (.inr (Nat.le_refl _)) _).setCell (.inr (Nat.le_refl _)) _⟩
 rw [Below.heap_setCell _ _ _ _ hne,Below.heap_setCell _ _ _ _ hne,Below.heap_setCell _ _ _ _ hne]
 exact h.rd
theorem op_none {w:World} {b:Nat} {ao:Option Addr} {bw off cap:Nat} {L:List Wd} {c:Nat} {e:Int} (h:RdI w b ao bw off cap L c e) (hk:kindQ (nextR L c)=0):
  Calls Tryz.prog 191 #[.pointer (some ⟨b,0,none⟩)] w (StepP (opV (0,0,0)) w b ao L.length cap c (failE e 5)):=by
 have h0:=h.below ((Below.refl _ w).alloc (Nat.le_refl _) zeroO)
 have HNX:=xhd (next_any h0)
 have HRD:=xhd (fun V (hV:Below (w.alloc zeroO).heap.size (w.alloc zeroO) V)=>h0.below hV)
 have HKD:=xhd (fun W=>kindof_any (nextR L c) W)
 rw [hk] at HKD
 obtain⟨y,hy⟩:∃y,nextR L c=y:=⟨_,rfl⟩
 simp only [hy] at HNX HKD
 obtain⟨e5,he5⟩:∃e5,failE e 5=e5:=⟨_,rfl⟩
 have HFL:=xhd (fun V (hV:RdI V b ao bw off cap L c e)=>fail_any hV.rd 5)
 simp only [he5] at HFL ⊢
 have HBW:=xhd (lt_of_block h.rd)
 obtain⟨yv,hyv⟩:∃yv,wdV y=yv:=⟨_,rfl⟩
 simp only [hyv] at HNX HKD
 clear hy hyv hk he5 h h0
 go_enter Tryz.func191,Tryz.ntmps191
 go_wp2_with fail
 with_reducible refine HNX.out.mono ?_
 rintro r w1 ⟨rfl,hb1⟩
 have HB1:=xhd hb1
 clear hb1
 go_wp2_with fail
 with_reducible refine (HKD.out _).mono ?_
 rintro r w2 ⟨rfl,hb2⟩
 have HB2:=xhd (HB1.out.trans (hb2.mono HB1.out.size))
 clear hb2
 go_wp2_with fail
 with_reducible refine (HFL.out _ (HRD.out _ HB2.out)).mono ?_
 rintro r w3 ⟨rfl,hr,ht⟩
 obtain⟨hx,hb2⟩:=box_kept HB2.out
 have hne:w.heap.size ∉ [b]:=by have:=HBW.out;simp;omega
 have HX3:=xhd (ht.same hx hne)
 have HR3:=xhd hr
 have HT3:=xhd ((turned_below hb2 [b]).trans ht (Newer.refl _ _))
 have hnb:b≠w.heap.size:=by have:=HBW.out;omega
 have HNB:=xhd hnb
 clear hr ht hx hb2 hne hnb
 obtain⟨c0,c1,c2⟩:=op_cells HX3.out
 have f0:=not_frozen HX3.out 0
 have f1:=not_frozen HX3.out 1
 have f2:=not_frozen HX3.out 2
 go_wp2
 refine bodyPost_ret (op_res rfl rfl (op_set HX3.out)) rfl ?_
 refine⟨rfl,?_,((HT3.out.setCell (.inr (Nat.le_refl _)) _).setCell (.inr (Nat.le_refl _)) _).setCell (.inr (Nat.le_refl _)) _⟩
 rw [Below.heap_setCell _ _ _ _ HNB.out,Below.heap_setCell _ _ _ _ HNB.out,Below.heap_setCell _ _ _ _ HNB.out]
 exact HR3.out
theorem op_n0 {w:World} {b:Nat} {ao:Option Addr} {bw off cap:Nat} {L:List Wd} {c:Nat} {e:Int} (h:RdI w b ao bw off cap L c e) {k:Nat} (hk:kindQ (nextR L c)=k) (hk0:k≠0) (hn:shN (k:Int)=0)
  {c1:Nat} {e1:Int} (h1:needQ L c e (1,nameR (k:Int),0,0)=(c1,e1)) {c4:Nat} {e4:Int} (h4:needQ L c1 e1 (3,[59],0,0)=(c4,e4)):
  Calls Tryz.prog 191 #[.pointer (some ⟨b,0,none⟩)] w (StepP (opV ((k:Int),0,0)) w b ao L.length cap c4 e4):=by
 have h0:=h.below ((Below.refl _ w).alloc (Nat.le_refl _) zeroO)
 have HNX:=xhd (next_any h0)
 have HRT:=xhd (fun V c' e' (t:Turned [b] w V) hr hc=>h.turned (c':=c') (e':=e') t hr hc)
 have HKD:=xhd (fun W=>kindof_any (nextR L c) W)
 rw [hk] at HKD
 have hsh:=fun W=>shape_any (k:Int) W
 obtain⟨s,n,lo,hi,lo2,hi2,es,hs,hsn,hsa,hsb⟩:=shape_let (k:Int)
 rw [hn] at hsn
 subst hsn
 simp only [es] at hsh
 have HSH:=xhd hsh
 have HNM:=xhd (fun s W=>pname_any s W)
 have HMK:=xhd (fun s W=>pmark_any s W)
 have hN1:=fun V (hV:RdI V b ao bw off cap L c e)=>need_any hV (1,nameR (k:Int),0,0)
 have hN4:=fun V (hV:RdI V b ao bw off cap L c1 e1)=>need_any hV (3,[59],0,0)
 have hl1:c1≤L.length:=by
  have:=needQ_le (e:=e) (x:=(1,nameR (k:Int),0,0)) h.le (by show (1:Int)≠0;decide)
  rw [h1] at this
  exact this
 have et:(⟨(nameR (k:Int)).toArray⟩:ByteArray)=s:=by rw [←hs,Lib.mk_data]
 unfold wdV at hN1 hN4
 simp only [h1,h4,et] at hN1 hN4
 have HN1:=xhd hN1
 have HN4:=xhd hN4
 obtain⟨y,hy⟩:∃y,nextR L c=y:=⟨_,rfl⟩
 simp only [hy] at HNX HKD
 obtain⟨yv,hyv⟩:∃yv,wdV y=yv:=⟨_,rfl⟩
 simp only [hyv] at HNX HKD
 have HRD:=xhd h.rd
 have HLE:=xhd h.le
 have HL1:=xhd hl1
 have hkb:((k:Int) == 0)=false:=by simp;omega
 clear hy hyv hk h h0 hN1 hN4 hsh hsa hsb es hs hn h1 h4 hk0 hl1 et
 go_enter Tryz.func191,Tryz.ntmps191
 go_wp2_with fail
 with_reducible refine HNX.out.mono ?_
 rintro r w1 ⟨rfl,hb1⟩
 have HB1:=xhd hb1
 clear hb1
 go_wp2_with fail
 with_reducible refine (HKD.out _).mono ?_
 rintro r w2 ⟨rfl,hb2⟩
 have HB2:=xhd (HB1.out.trans (hb2.mono HB1.out.size))
 clear hb2
 go_wp2_with fail
 with_reducible refine (HSH.out _).mono ?_
 rintro r w3 ⟨rfl,hb3⟩
 have HB3:=xhd (HB2.out.trans (hb3.mono HB2.out.size))
 clear hb3
 have HF:=xhd (OpF.start (sh:= #[.string s, .int .i64 0, .int .i64 lo, .int .i64 hi, .int .i64 lo2, .int .i64 hi2]) (k:=(k:Int)) HRD.out HB3.out)
 have HW5:Hid (∃W5,(w3.alloc (.cells #[.string s, .int .i64 0, .int .i64 lo, .int .i64 hi, .int .i64 lo2, .int .i64 hi2] 201)).alloc (.cells #[.int .i64 (k:Int), .int .i64 0, .int .i64 0] 142)=W5):=⟨_,rfl⟩
 go_wp2_with fail
 obtain⟨W5,hW5⟩:=HW5.out
 rw [hW5] at HF ⊢
 clear hW5 HW5
 obtain⟨S,hS⟩:∃S,w3.heap.size=S:=⟨_,rfl⟩
 rw [hS] at HF ⊢
 clear hS
 with_reducible refine (HNM.out _ _).mono ?_
 rintro r w6 ⟨rfl,hb⟩
 have HF6:=xhd (HF.out.below hb)
 clear hb
 go_wp2_with fail
 with_reducible refine (HN1.out _ (HRT.out _ _ _ HF6.out.tur HF6.out.rd HLE.out)).mono ?_
 rintro r w7 ⟨rfl,hr,ht⟩
 have HF7:=xhd (HF6.out.step ht hr)
 clear hr ht
 obtain⟨d0,d1,d2,d3,d4,d5⟩:=six_cells HF7.out.shp
 obtain⟨o0,o1,o2⟩:=op_cells HF7.out.opb
 go_wp2_with fail
 with_reducible refine (HMK.out _ _).mono ?_
 rintro r w10 ⟨rfl,hb⟩
 have HF10:=xhd (HF7.out.below hb)
 clear hb d0 d1 d2 d3 d4 d5 o0 o1 o2
 go_wp2_with fail
 with_reducible refine (HN4.out _ (HRT.out _ _ _ HF10.out.tur HF10.out.rd HL1.out)).mono ?_
 rintro r w11 ⟨rfl,hr,ht⟩
 have HF11:=xhd (HF10.out.step ht hr)
 clear hr ht
 obtain⟨o0,o1,o2⟩:=op_cells HF11.out.opb
 obtain⟨r0,r1,r2⟩:=op_cells HF11.out.res
 have f0:=not_frozen HF11.out.res 0
 have f1:=not_frozen HF11.out.res 1
 have f2:=not_frozen HF11.out.res 2
 go_wp2
 refine bodyPost_ret (op_res rfl rfl (HF11.out.fin _ _ _).1) rfl ?_
 exact⟨rfl,(HF11.out.fin _ _ _).2.1,(HF11.out.fin _ _ _).2.2⟩
theorem op_n1 {w:World} {b:Nat} {ao:Option Addr} {bw off cap:Nat} {L:List Wd} {c:Nat} {e:Int} (h:RdI w b ao bw off cap L c e) (hL:Clean L) {k:Nat} (hk:kindQ (nextR L c)=k) (hk0:k≠0) (hn:shN (k:Int)=1)
  {c1:Nat} {e1:Int} (h1:needQ L c e (1,nameR (k:Int),0,0)=(c1,e1)) {x:Int} {c2:Nat} {e2:Int} (h2:rdnR L c1 (shA (k:Int)).1 (shA (k:Int)).2 e1=(x,c2,e2)) {c4:Nat} {e4:Int} (h4:needQ L c2 e2 (3,[59],0,0)=(c4,e4)):
  Calls Tryz.prog 191 #[.pointer (some ⟨b,0,none⟩)] w (StepP (opV ((k:Int),x,0)) w b ao L.length cap c4 e4):=by
 have h0:=h.below ((Below.refl _ w).alloc (Nat.le_refl _) zeroO)
 have HNX:=xhd (next_any h0)
 have HRT:=xhd (fun V c' e' (t:Turned [b] w V) hr hc=>h.turned (c':=c') (e':=e') t hr hc)
 have HKD:=xhd (fun W=>kindof_any (nextR L c) W)
 rw [hk] at HKD
 have hsh:=fun W=>shape_any (k:Int) W
 obtain⟨s,n,lo,hi,lo2,hi2,es,hs,hsn,hsa,hsb⟩:=shape_let (k:Int)
 rw [hn] at hsn
 subst hsn
 simp only [es] at hsh
 have HSH:=xhd hsh
 have HNM:=xhd (fun s W=>pname_any s W)
 have HMK:=xhd (fun s W=>pmark_any s W)
 have hN1:=fun V (hV:RdI V b ao bw off cap L c e)=>need_any hV (1,nameR (k:Int),0,0)
 have hN4:=fun V (hV:RdI V b ao bw off cap L c2 e2)=>need_any hV (3,[59],0,0)
 have hl1:c1≤L.length:=by
  have:=needQ_le (e:=e) (x:=(1,nameR (k:Int),0,0)) h.le (by show (1:Int)≠0;decide)
  rw [h1] at this
  exact this
 have hl8:c2≤L.length:=by
  have:=rdnR_le (lo:=(shA (k:Int)).1) (hi:=(shA (k:Int)).2) (e:=e1) hl1
  rw [h2] at this
  exact this
 have HL8:=xhd hl8
 have et:(⟨(nameR (k:Int)).toArray⟩:ByteArray)=s:=by rw [←hs,Lib.mk_data]
 unfold wdV at hN1 hN4
 simp only [h1,h4,et] at hN1 hN4
 have HN1:=xhd hN1
 have HN4:=xhd hN4
 have hNA:=fun V (hV:RdI V b ao bw off cap L c1 e1)=>number_any hV hL (shA (k:Int)).1 (shA (k:Int)).2
 simp only [hsa] at h2 hNA
 simp only [h2] at hNA
 have HNA:=xhd hNA
 clear hNA
 obtain⟨y,hy⟩:∃y,nextR L c=y:=⟨_,rfl⟩
 simp only [hy] at HNX HKD
 obtain⟨yv,hyv⟩:∃yv,wdV y=yv:=⟨_,rfl⟩
 simp only [hyv] at HNX HKD
 have HRD:=xhd h.rd
 have HLE:=xhd h.le
 have HL1:=xhd hl1
 have hkb:((k:Int) == 0)=false:=by simp;omega
 clear hy hyv hk h h0 hN1 hN4 hsh hsa hsb es hs hn h1 h4 hL hk0 hl1 et h2 hl8
 go_enter Tryz.func191,Tryz.ntmps191
 go_wp2_with fail
 with_reducible refine HNX.out.mono ?_
 rintro r w1 ⟨rfl,hb1⟩
 have HB1:=xhd hb1
 clear hb1
 go_wp2_with fail
 with_reducible refine (HKD.out _).mono ?_
 rintro r w2 ⟨rfl,hb2⟩
 have HB2:=xhd (HB1.out.trans (hb2.mono HB1.out.size))
 clear hb2
 go_wp2_with fail
 with_reducible refine (HSH.out _).mono ?_
 rintro r w3 ⟨rfl,hb3⟩
 have HB3:=xhd (HB2.out.trans (hb3.mono HB2.out.size))
 clear hb3
 have HF:=xhd (OpF.start (sh:= #[.string s, .int .i64 1, .int .i64 lo, .int .i64 hi, .int .i64 lo2, .int .i64 hi2]) (k:=(k:Int)) HRD.out HB3.out)
 have HW5:Hid (∃W5,(w3.alloc (.cells #[.string s, .int .i64 1, .int .i64 lo, .int .i64 hi, .int .i64 lo2, .int .i64 hi2] 201)).alloc (.cells #[.int .i64 (k:Int), .int .i64 0, .int .i64 0] 142)=W5):=⟨_,rfl⟩
 go_wp2_with fail
 obtain⟨W5,hW5⟩:=HW5.out
 rw [hW5] at HF ⊢
 clear hW5 HW5
 obtain⟨S,hS⟩:∃S,w3.heap.size=S:=⟨_,rfl⟩
 rw [hS] at HF ⊢
 clear hS
 with_reducible refine (HNM.out _ _).mono ?_
 rintro r w6 ⟨rfl,hb⟩
 have HF6:=xhd (HF.out.below hb)
 clear hb
 go_wp2_with fail
 with_reducible refine (HN1.out _ (HRT.out _ _ _ HF6.out.tur HF6.out.rd HLE.out)).mono ?_
 rintro r w7 ⟨rfl,hr,ht⟩
 have HF7:=xhd (HF6.out.step ht hr)
 clear hr ht
 obtain⟨d0,d1,d2,d3,d4,d5⟩:=six_cells HF7.out.shp
 obtain⟨o0,o1,o2⟩:=op_cells HF7.out.opb
 have fo1:=not_frozen HF7.out.opb 1
 go_wp2_with fail
 with_reducible refine (HNA.out _ (HRT.out _ _ _ HF7.out.tur HF7.out.rd HL1.out)).mono ?_
 rintro r w8 ⟨rfl,hr,ht⟩
 have hf:=HF7.out.step ht hr
 have HF8:=xhd (hf.setA x)
 clear hr ht d0 d1 d2 d3 d4 d5 o0 o1 o2 fo1
 obtain⟨d0,d1,d2,d3,d4,d5⟩:=six_cells hf.shp
 obtain⟨o0,o1,o2⟩:=op_cells hf.opb
 have fo1:=not_frozen hf.opb 1
 have HW9:Hid (∃W9,w8.setCell ⟨S+1,1,none⟩ (.int .i64 x)=W9):=⟨_,rfl⟩
 clear hf
 go_wp2_with fail
 obtain⟨W9,hW9⟩:=HW9.out
 rw [hW9] at HF8 ⊢
 clear hW9 HW9 d0 d1 d2 d3 d4 d5 o0 o1 o2 fo1
 obtain⟨d0,d1,d2,d3,d4,d5⟩:=six_cells HF8.out.shp
 obtain⟨o0,o1,o2⟩:=op_cells HF8.out.opb
 go_wp2_with fail
 with_reducible refine (HMK.out _ _).mono ?_
 rintro r w10 ⟨rfl,hb⟩
 have HF10:=xhd (HF8.out.below hb)
 clear hb d0 d1 d2 d3 d4 d5 o0 o1 o2
 go_wp2_with fail
 with_reducible refine (HN4.out _ (HRT.out _ _ _ HF10.out.tur HF10.out.rd HL8.out)).mono ?_
 rintro r w11 ⟨rfl,hr,ht⟩
 have HF11:=xhd (HF10.out.step ht hr)
 clear hr ht
 obtain⟨o0,o1,o2⟩:=op_cells HF11.out.opb
 obtain⟨r0,r1,r2⟩:=op_cells HF11.out.res
 have f0:=not_frozen HF11.out.res 0
 have f1:=not_frozen HF11.out.res 1
 have f2:=not_frozen HF11.out.res 2
 go_wp2
 refine bodyPost_ret (op_res rfl rfl (HF11.out.fin _ _ _).1) rfl ?_
 exact⟨rfl,(HF11.out.fin _ _ _).2.1,(HF11.out.fin _ _ _).2.2⟩
theorem op_n2 {w:World} {b:Nat} {ao:Option Addr} {bw off cap:Nat} {L:List Wd} {c:Nat} {e:Int} (h:RdI w b ao bw off cap L c e) (hL:Clean L) {k:Nat} (hk:kindQ (nextR L c)=k) (hk0:k≠0) (hn:shN (k:Int)=2)
  {c1:Nat} {e1:Int} (h1:needQ L c e (1,nameR (k:Int),0,0)=(c1,e1)) {x:Int} {c2:Nat} {e2:Int} (h2:rdnR L c1 (shA (k:Int)).1 (shA (k:Int)).2 e1=(x,c2,e2)) {yy:Int} {c3:Nat} {e3:Int} (h3:rdnR L c2 (shB (k:Int)).1 (shB (k:Int)).2 e2=(yy,c3,e3)) {c4:Nat} {e4:Int} (h4:needQ L c3 e3 (3,[59],0,0)=(c4,e4)):
  Calls Tryz.prog 191 #[.pointer (some ⟨b,0,none⟩)] w (StepP (opV ((k:Int),x,yy)) w b ao L.length cap c4 e4):=by
 have h0:=h.below ((Below.refl _ w).alloc (Nat.le_refl _) zeroO)
 have HNX:=xhd (next_any h0)
 have HRT:=xhd (fun V c' e' (t:Turned [b] w V) hr hc=>h.turned (c':=c') (e':=e') t hr hc)
 have HKD:=xhd (fun W=>kindof_any (nextR L c) W)
 rw [hk] at HKD
 have hsh:=fun W=>shape_any (k:Int) W
 obtain⟨s,n,lo,hi,lo2,hi2,es,hs,hsn,hsa,hsb⟩:=shape_let (k:Int)
 rw [hn] at hsn
 subst hsn
 simp only [es] at hsh
 have HSH:=xhd hsh
 have HNM:=xhd (fun s W=>pname_any s W)
 have HMK:=xhd (fun s W=>pmark_any s W)
 have hN1:=fun V (hV:RdI V b ao bw off cap L c e)=>need_any hV (1,nameR (k:Int),0,0)
 have hN4:=fun V (hV:RdI V b ao bw off cap L c3 e3)=>need_any hV (3,[59],0,0)
 have hl1:c1≤L.length:=by
  have:=needQ_le (e:=e) (x:=(1,nameR (k:Int),0,0)) h.le (by show (1:Int)≠0;decide)
  rw [h1] at this
  exact this
 have hl8:c2≤L.length:=by
  have:=rdnR_le (lo:=(shA (k:Int)).1) (hi:=(shA (k:Int)).2) (e:=e1) hl1
  rw [h2] at this
  exact this
 have HL8:=xhd hl8
 have hl9:c3≤L.length:=by
  have:=rdnR_le (lo:=(shB (k:Int)).1) (hi:=(shB (k:Int)).2) (e:=e2) hl8
  rw [h3] at this
  exact this
 have HL9:=xhd hl9
 have et:(⟨(nameR (k:Int)).toArray⟩:ByteArray)=s:=by rw [←hs,Lib.mk_data]
 unfold wdV at hN1 hN4
 simp only [h1,h4,et] at hN1 hN4
 have HN1:=xhd hN1
 have HN4:=xhd hN4
 have hNA:=fun V (hV:RdI V b ao bw off cap L c1 e1)=>number_any hV hL (shA (k:Int)).1 (shA (k:Int)).2
 simp only [hsa] at h2 hNA
 simp only [h2] at hNA
 have HNA:=xhd hNA
 clear hNA
 have hNB:=fun V (hV:RdI V b ao bw off cap L c2 e2)=>number_any hV hL (shB (k:Int)).1 (shB (k:Int)).2
 simp only [hsb] at h3 hNB
 simp only [h3] at hNB
 have HNB:=xhd hNB
 clear hNB
 obtain⟨y,hy⟩:∃y,nextR L c=y:=⟨_,rfl⟩
 simp only [hy] at HNX HKD
 obtain⟨yv,hyv⟩:∃yv,wdV y=yv:=⟨_,rfl⟩
 simp only [hyv] at HNX HKD
 have HRD:=xhd h.rd
 have HLE:=xhd h.le
 have HL1:=xhd hl1
 have hkb:((k:Int) == 0)=false:=by simp;omega
 clear hy hyv hk h h0 hN1 hN4 hsh hsa hsb es hs hn h1 h4 hL hk0 hl1 et h2 h3 hl8 hl9
 go_enter Tryz.func191,Tryz.ntmps191
 go_wp2_with fail
 with_reducible refine HNX.out.mono ?_
 rintro r w1 ⟨rfl,hb1⟩
 have HB1:=xhd hb1
 clear hb1
 go_wp2_with fail
 with_reducible refine (HKD.out _).mono ?_
 rintro r w2 ⟨rfl,hb2⟩
 have HB2:=xhd (HB1.out.trans (hb2.mono HB1.out.size))
 clear hb2
 go_wp2_with fail
 with_reducible refine (HSH.out _).mono ?_
 rintro r w3 ⟨rfl,hb3⟩
 have HB3:=xhd (HB2.out.trans (hb3.mono HB2.out.size))
 clear hb3
 have HF:=xhd (OpF.start (sh:= #[.string s, .int .i64 2, .int .i64 lo, .int .i64 hi, .int .i64 lo2, .int .i64 hi2]) (k:=(k:Int)) HRD.out HB3.out)
 have HW5:Hid (∃W5,(w3.alloc (.cells #[.string s, .int .i64 2, .int .i64 lo, .int .i64 hi, .int .i64 lo2, .int .i64 hi2] 201)).alloc (.cells #[.int .i64 (k:Int), .int .i64 0, .int .i64 0] 142)=W5):=⟨_,rfl⟩
 go_wp2_with fail
 obtain⟨W5,hW5⟩:=HW5.out
 rw [hW5] at HF ⊢
 clear hW5 HW5
 obtain⟨S,hS⟩:∃S,w3.heap.size=S:=⟨_,rfl⟩
 rw [hS] at HF ⊢
 clear hS
 with_reducible refine (HNM.out _ _).mono ?_
 rintro r w6 ⟨rfl,hb⟩
 have HF6:=xhd (HF.out.below hb)
 clear hb
 go_wp2_with fail
 with_reducible refine (HN1.out _ (HRT.out _ _ _ HF6.out.tur HF6.out.rd HLE.out)).mono ?_
 rintro r w7 ⟨rfl,hr,ht⟩
 have HF7:=xhd (HF6.out.step ht hr)
 clear hr ht
 obtain⟨d0,d1,d2,d3,d4,d5⟩:=six_cells HF7.out.shp
 obtain⟨o0,o1,o2⟩:=op_cells HF7.out.opb
 have fo1:=not_frozen HF7.out.opb 1
 go_wp2_with fail
 with_reducible refine (HNA.out _ (HRT.out _ _ _ HF7.out.tur HF7.out.rd HL1.out)).mono ?_
 rintro r w8 ⟨rfl,hr,ht⟩
 have hf:=HF7.out.step ht hr
 have HF8:=xhd (hf.setA x)
 clear hr ht d0 d1 d2 d3 d4 d5 o0 o1 o2 fo1
 obtain⟨d0,d1,d2,d3,d4,d5⟩:=six_cells hf.shp
 obtain⟨o0,o1,o2⟩:=op_cells hf.opb
 have fo1:=not_frozen hf.opb 1
 have HW9:Hid (∃W9,w8.setCell ⟨S+1,1,none⟩ (.int .i64 x)=W9):=⟨_,rfl⟩
 clear hf
 go_wp2_with fail
 obtain⟨W9,hW9⟩:=HW9.out
 rw [hW9] at HF8 ⊢
 clear hW9 HW9 d0 d1 d2 d3 d4 d5 o0 o1 o2 fo1
 obtain⟨d0,d1,d2,d3,d4,d5⟩:=six_cells HF8.out.shp
 obtain⟨o0,o1,o2⟩:=op_cells HF8.out.opb
 have fo2:=not_frozen HF8.out.opb 2
 go_wp2_with fail
 with_reducible refine (HNB.out _ (HRT.out _ _ _ HF8.out.tur HF8.out.rd HL8.out)).mono ?_
 rintro r w9 ⟨rfl,hr,ht⟩
 have hf:=HF8.out.step ht hr
 have HF9:=xhd (hf.setB yy)
 clear hr ht d0 d1 d2 d3 d4 d5 o0 o1 o2 fo2
 obtain⟨d0,d1,d2,d3,d4,d5⟩:=six_cells hf.shp
 obtain⟨o0,o1,o2⟩:=op_cells hf.opb
 have fo2:=not_frozen hf.opb 2
 have HW9:Hid (∃W9,w9.setCell ⟨S+1,2,none⟩ (.int .i64 yy)=W9):=⟨_,rfl⟩
 clear hf
 go_wp2_with fail
 obtain⟨W10,hW10⟩:=HW9.out
 rw [hW10] at HF9 ⊢
 clear hW10 HW9 d0 d1 d2 d3 d4 d5 o0 o1 o2 fo2
 obtain⟨d0,d1,d2,d3,d4,d5⟩:=six_cells HF9.out.shp
 obtain⟨o0,o1,o2⟩:=op_cells HF9.out.opb
 go_wp2_with fail
 with_reducible refine (HMK.out _ _).mono ?_
 rintro r w10 ⟨rfl,hb⟩
 have HF10:=xhd (HF9.out.below hb)
 clear hb d0 d1 d2 d3 d4 d5 o0 o1 o2
 go_wp2_with fail
 with_reducible refine (HN4.out _ (HRT.out _ _ _ HF10.out.tur HF10.out.rd HL9.out)).mono ?_
 rintro r w11 ⟨rfl,hr,ht⟩
 have HF11:=xhd (HF10.out.step ht hr)
 clear hr ht
 obtain⟨o0,o1,o2⟩:=op_cells HF11.out.opb
 obtain⟨r0,r1,r2⟩:=op_cells HF11.out.res
 have f0:=not_frozen HF11.out.res 0
 have f1:=not_frozen HF11.out.res 1
 have f2:=not_frozen HF11.out.res 2
 go_wp2
 refine bodyPost_ret (op_res rfl rfl (HF11.out.fin _ _ _).1) rfl ?_
 exact⟨rfl,(HF11.out.fin _ _ _).2.1,(HF11.out.fin _ _ _).2.2⟩
theorem is_next {L:List Wd} (hL:Clean L) {c:Nat} {k:Int} {t:List By} (hk:k=1∨k=3):isR L c k t=decide (nextR L c=(k,t,0,0)):=by
 by_cases hc:c < L.length
 ·rw [next_at hc]
  unfold isR
  rw [List.getElem?_eq_getElem hc]
  have hcl:=(hL _ (List.getElem_mem hc)).1
  obtain⟨⟨a,b,m,p⟩,hx⟩:∃x,L[c]=x:=⟨_,rfl⟩
  rw [hx] at hcl ⊢
  simp only at hcl ⊢
  rw [Bool.eq_iff_iff]
  simp only [Bool.and_eq_true,decide_eq_true_eq,Prod.mk.injEq,and_true]
  constructor
  ·rintro ⟨rfl,rfl⟩
   exact⟨rfl,rfl,hcl (by omega)⟩
  ·rintro ⟨h1,h2,_⟩
   exact⟨h1,h2⟩
 ·rw [next_end (by omega),is_empty (by omega)]
  symm
  simp only [decide_eq_false_iff_not,Prod.mk.injEq]
  rintro ⟨h,_⟩
  omega
theorem kind_not {L:List Wd} {c:Nat} (h:∀t,isR L c 1 t=false):∀n,kindUp L c n=0
 |0=>rfl
 |n+1=>by rw [kindUp,h,if_neg (by simp)];exact kind_not h n
theorem kind_next {L:List Wd} (hL:Clean L) (c:Nat):kindR L c=kindQ (nextR L c):=by
 unfold kindR
 by_cases hc:c < L.length
 ·have hd:L.drop c=L[c]::L.drop (c+1):=List.drop_eq_getElem_cons hc
  rw [next_at hc]
  have hcl:=(hL _ (List.getElem_mem hc)).1
  unfold kindQ
  simp only
  by_cases h1:L[c].1=1
  ·rw [kind_at hd h1,if_pos ⟨h1,hcl (by omega),trivial⟩]
  ·rw [if_neg (fun h=>h1 h.1),kind_not]
   intro t
   rw [is_at hd]
   simp [h1]
 ·rw [next_end (by omega)]
  rw [kind_not (fun t=>is_empty (by omega))]
  rfl
def opQ (L:List Wd) (c:Nat) (e:Int):Opn×Nat×Int:=
 if kindQ (nextR L c)=0 then ((0,0,0),c,failE e 5) else
  let k:Int:=(kindQ (nextR L c):Nat)
  let r1:=needQ L c e (1,nameR k,0,0)
  let r2:Int×Nat×Int:=if 1≤shN k then rdnR L r1.1 (shA k).1 (shA k).2 r1.2 else (0,r1.1,r1.2)
  let r3:Int×Nat×Int:=if 2≤shN k then rdnR L r2.2.1 (shB k).1 (shB k).2 r2.2.2 else (0,r2.2.1,r2.2.2)
  let r4:=needQ L r3.2.1 r3.2.2 (3,[59],0,0)
  ((k,r2.1,r3.1),r4.1,r4.2)
theorem shN_is (k:Int):shN k=0∨shN k=1∨shN k=2:=by
 unfold shN
 split
 ·split
  ·exact .inr (.inr rfl)
  ·exact .inr (.inl rfl)
 ·exact .inl rfl
theorem op_any {w:World} {b:Nat} {ao:Option Addr} {bw off cap:Nat} {L:List Wd} {c:Nat} {e:Int} (h:RdI w b ao bw off cap L c e) (hL:Clean L):
  Calls Tryz.prog 191 #[.pointer (some ⟨b,0,none⟩)] w (StepP (opV (opQ L c e).1) w b ao L.length cap (opQ L c e).2.1 (opQ L c e).2.2):=by
 unfold opQ
 by_cases hk:kindQ (nextR L c)=0
 ·rw [if_pos hk]
  exact op_none h hk
 ·rw [if_neg hk]
  simp only
  rcases shN_is ((kindQ (nextR L c):Nat):Int) with hn|hn|hn
  ·rw [if_neg (by omega),if_neg (by omega)]
   exact op_n0 h rfl hk hn rfl rfl
  ·rw [if_pos (by omega),if_neg (by omega)]
   exact op_n1 h hL rfl hk hn rfl rfl rfl
  ·rw [if_pos (by omega),if_pos (by omega)]
   exact op_n2 h hL rfl hk hn rfl rfl rfl rfl
theorem need_dead {L:List Wd} {c:Nat} {e:Int} {x:Wd} (he:e≠0):needQ L c e x=(c,e):=by
 unfold needQ failE
 rw [if_neg (fun h=>he h.1),if_neg he]
theorem opQ_dead {L:List Wd} {c:Nat} {e:Int} (he:e≠0):(opQ L c e).2=(c,e):=by
 unfold opQ
 split
 ·unfold failE
  rw [if_neg he]
 ·simp only [need_dead he]
  split<;>split<;>simp only [num_dead he,need_dead he]
theorem need_live {L:List Wd} {c:Nat} {x:Wd} :needQ L c 0 x=if nextR L c=x then (c+1,0) else (c,5):=by
 unfold needQ failE
 by_cases h:nextR L c=x
 ·rw [if_pos ⟨rfl,h⟩,if_pos h]
 ·rw [if_neg (fun hh=>h hh.2),if_neg h,if_pos rfl]
theorem kindQ_next {L:List Wd} {c k:Nat} (h:kindQ (nextR L c)=k) (hk:k≠0):nextR L c=(1,nameR (k:Int),0,0):=by
 refine Decidable.byContradiction fun hne=>?_
 have hall:∀j:Nat,1≤j→j < 12→nextR L c≠(1,nameR (j:Int),0,0):=by
  intro j h1 h2 he
  have h3:=kindQ_hit h1 (by omega) he
  rw [h] at h3
  subst h3
  exact hne he
 exact hk (h ▸ kindQ_miss hall)
theorem opQ_live {L:List Wd} (hL:Clean L) {c k:Nat} (h:kindQ (nextR L c)=k) (hk:k≠0):
  match opR L (c+1) (k:Int) with
  | .ok (o,a)=>opQ L c 0=(o,a,0)
  | .error (a,x)=>(opQ L c 0).2=(a,x)∧x≠0:=by
 have hx:=kindQ_next h hk
 have e1:needQ L c 0 (1,nameR (k:Int),0,0)=(c+1,0):=by rw [need_live,if_pos hx]
 have hkk:(k:Int)=5→shN (k:Int)=2∧shB (k:Int)=(1,64):=by
  intro h5
  rw [h5]
  exact⟨rfl,rfl⟩
 have ha:(if 1≤shN (k:Int) then rdnR L (c+1) (shA (k:Int)).1 (shA (k:Int)).2 0 else (0,c+1,0))=
   match arg1R L (c+1) (k:Int) with
   | .ok (x,a)=>(x,a,0)
   | .error (a,x)=>(0,a,x):=by
  by_cases hl:0≤(limR (k:Int)).1
  ·have q1:1≤shN (k:Int):=by
     unfold shN
     rw [if_pos hl]
     split<;>decide
   have q2:shA (k:Int)=limR (k:Int):=by
    unfold shA
    rw [if_pos hl]
   rw [if_pos q1,q2]
   unfold arg1R
   rw [if_neg (by omega)]
   unfold rdnR
   rw [if_neg (by simp)]
   all_goals (cases argR L (c+1) (limR (k:Int)).1 (limR (k:Int)).2<;>rfl)
  ·have q1:¬1≤shN (k:Int):=by
     unfold shN
     rw [if_neg hl]
     decide
   rw [if_neg q1]
   unfold arg1R
   rw [if_pos (by omega)]
 have hb:∀a1:Nat,(if 2≤shN (k:Int) then rdnR L a1 (shB (k:Int)).1 (shB (k:Int)).2 0 else (0,a1,0))=
   match arg2R L a1 (k:Int) with
   | .ok (x,a)=>(x,a,0)
   | .error (a,x)=>(0,a,x):=by
  intro a1
  unfold arg2R
  by_cases h5:(k:Int)=5
  ·obtain⟨q1,q2⟩:=hkk h5
   rw [if_pos h5,q1,q2,if_pos (by decide)]
   unfold rdnR
   rw [if_neg (by simp)]
   all_goals (cases argR L a1 1 64<;>rfl)
  ·have q:¬2≤shN (k:Int):=by
     unfold shN
     split<;>first|decide|(rw [if_neg h5];decide)
   rw [if_neg h5,if_neg q]
 unfold opQ
 simp only [h]
 rw [if_neg hk]
 simp only [e1,ha]
 cases h1:arg1R L (c+1) (k:Int) with
 |error ee=>
  obtain⟨a,x⟩:=ee
  have hx0:x≠0:=by
   have:=op_bad (op_arg1 h1)
   simp only at this
   omega
  rw [op_arg1 h1]
  simp only
  refine⟨?_,hx0⟩
  split<;>simp only [num_dead hx0,need_dead hx0]
 |ok xx=>
  obtain⟨x,a1⟩:=xx
  simp only [hb]
  cases h2:arg2R L a1 (k:Int) with
  |error ee=>
   obtain⟨a,y⟩:=ee
   have hy0:y≠0:=by
    have:=op_bad (op_arg2 h1 h2)
    simp only at this
    omega
   rw [op_arg2 h1 h2]
   simp only
   refine⟨?_,hy0⟩
   simp only [need_dead hy0]
  |ok yy=>
   obtain⟨y,a2⟩:=yy
   simp only [need_live]
   cases h3:isR L a2 3 [59] with
   |false=>
    rw [op_semi h1 h2 h3]
    simp only
    rw [is_next hL (.inr rfl),decide_eq_false_iff_not] at h3
    rw [if_neg h3]
    exact⟨rfl,by decide⟩
   |true=>
    rw [op_done h1 h2 h3]
    simp only
    rw [is_next hL (.inr rfl),decide_eq_true_eq] at h3
    rw [if_pos h3]
def OpsI (L:List Wd) (A:Except Bad (List Opn×Nat)) (c:Nat) (e:Int) (ops:List Opn):Prop:=
 (e=0∧ops.length≤12∧A=opsR L (13 - ops.length) c ops)∨(e≠0∧ops.length≤13∧A= .error (c,e))
theorem OpsI.start (L:List Wd) (c:Nat):OpsI L (opsR L 13 c []) c 0 []:= .inl ⟨rfl,Nat.zero_le _,rfl⟩
theorem OpsI.step {L:List Wd} (hL:Clean L) {A:Except Bad (List Opn×Nat)} {c:Nat} {ops:List Opn} (h:OpsI L A c 0 ops) (hn:nextR L c≠(3,[125],0,0)) {e1:Int}
  (he:e1=if ops.length=12∧kindQ (nextR L c)≠0 then 6 else 0):OpsI L A (opQ L c e1).2.1 (opQ L c e1).2.2 (ops++[(opQ L c e1).1]):=by
 rcases h with⟨_,hl,hA⟩ |⟨hh,_⟩
 case inr=>exact absurd rfl hh
 have h125:isR L c 3 [125]=false:=by rw [is_next hL (.inr rfl)];simpa using hn
 have hkn:=kind_next hL c
 by_cases hk:kindQ (nextR L c)=0
 ·rw [if_neg (fun h=>h.2 hk)] at he
  subst he
  have eq:opQ L c 0=((0,0,0),c,5):=by
   unfold opQ failE
   rw [if_pos hk,if_pos rfl]
  rw [eq]
  exact .inr ⟨by simp,by simp;omega,by rw [hA,ops_none hl h125 (by rw [hkn];exact hk)]⟩
 ·by_cases h12:ops.length=12
  ·rw [if_pos ⟨h12,hk⟩] at he
   subst he
   rw [opQ_dead (by decide)]
   exact .inr ⟨by simp,by simp;omega,by rw [hA,ops_long h12 h125 (by rw [hkn];exact hk)]⟩
  ·rw [if_neg (fun h=>h12 h.1)] at he
   subst he
   have hl':ops.length < 12:=by omega
   have hkr:¬kindR L c=0:=by rw [hkn];exact hk
   have hlive:=opQ_live hL (c:=c) rfl hk
   rw [←hkn] at hlive
   cases ho:opR L (c+1) ((kindR L c:Nat):Int) with
   |error ee=>
    obtain⟨a,x⟩:=ee
    rw [ho] at hlive
    simp only at hlive
    rw [hlive.1]
    exact .inr ⟨hlive.2,by simp;omega,by rw [hA,ops_fail hl' h125 hkr ho]⟩
   |ok oo=>
    obtain⟨o,a⟩:=oo
    rw [ho] at hlive
    simp only at hlive
    rw [hlive]
    exact .inl ⟨rfl,by simp;omega,by rw [hA,ops_more hl' h125 hkr ho]⟩
theorem opQ_le {L:List Wd} {c:Nat} {e:Int} (h:c≤L.length):(opQ L c e).2.1≤L.length:=by
 unfold opQ
 split
 ·exact h
 ·simp only
  have h1:=needQ_le (e:=e) (x:=(1,nameR ((kindQ (nextR L c):Nat):Int),0,0)) h (by show (1:Int)≠0;decide)
  refine needQ_le ?_ (by show (3:Int)≠0;decide)
  split<;>split<;>first|exact h1|exact rdnR_le h1|exact rdnR_le (rdnR_le h1)
theorem OpsI.last {L:List Wd} (hL:Clean L) {A:Except Bad (List Opn×Nat)} {c:Nat} {ops:List Opn} (h:OpsI L A c 0 ops) (hn:nextR L c=(3,[125],0,0)):
  A=if ops=[] then .error (c,4) else .ok (ops,c+1):=by
 rcases h with⟨_,hl,hA⟩ |⟨hh,_⟩
 case inr=>exact absurd rfl hh
 have h125:isR L c 3 [125]=true:=by rw [is_next hL (.inr rfl),decide_eq_true_eq];exact hn
 rw [hA,ops_end hl h125]
theorem ownsRow_base {w:World} {base base':Nat} {e:TypeId} {size:Nat} {v:Value} {n:Nat} {xs:List Value} (h:w.ownsRow base e size v n xs) (hb:base'≤base):w.ownsRow base' e size v n xs:=by
 refine⟨h.1,?_⟩
 rcases h.2 with h2|⟨g,cap,cur,rfl,h1,h2⟩
 ·exact .inl h2
 ·exact .inr ⟨g,cap,cur,rfl,by omega,h2⟩
theorem wpList_append_at {P:Program} (w:World) {ops:Array Oper} {rest:List Oper} {o:Oper} {a:Act} {Q:Exit→Act→World→Prop} (hgd:o.guard=none) (s x:Operand) (t:TypeId)
  (ho:o.op= .call { callee:= .builtin .append,args:= #[s,x],argTypes:= #[t,t] })
  (e:TypeId) (i:TypeInfo) (z:Value) (size bytes:Nat) (ht:P.underlying t=some (.slice e)) (hi:P.info? e=some i) (hz:i.zero=some z)
  (hsize:i.size=size) (hby:i.bytes=bytes) (hzs:z.cells.size=size) (hsz:0 < size)
  (v:Value) (n:Nat) (xs:List Value) (hs:a.eval s=v) (hown:w.ownsRow 0 e size v n xs)
  (ad:Addr) (m c:Nat) (news:List Value) (hx:a.eval x= .slice (some ad) m c) (hm:0 < m) (hl:news.length=m*size) (hnews:∀j u,news[j]?=some u→w.cell? (ad.add j)=some u) (h1:∀u ∈ news,u.oneCell'=true)
  (h63:n+m≤maxLen) (hbytes:(n+m)*bytes≤140737488355328)
  (h:∀g cap' w',w'.ownsRow 0 e size (.slice (some ⟨g,0,none⟩) (n+m) cap') (n+m) (xs++news)→w.grownBy w' v.ownBlock→(v.ownBlock=some g∨w.heap.size≤g)→n+m≤cap'→cap'≤maxLen→
    wpList P ops Q rest (a.put o.dst (.slice (some ⟨g,0,none⟩) (n+m) cap')) w'):wpList P ops Q (o::rest) a w:=by
 have fresh:∀ {v':Value} {w':World} {row:Option Nat},w'.ownsRow w.heap.size e size v' (n+m) (xs++news)→w.grownBy w' row→(∀k,row=some k→v.ownBlock=some k)→wpList P ops Q rest (a.put o.dst v') w':=by
  intro v' w' row r1 r2 r3
  obtain⟨g,cap',rfl,hc1,hc2⟩:=ownsRow_pos r1 (by omega)
  refine h g cap' w' (ownsRow_base r1 (Nat.zero_le _)) ⟨r2.os,r2.tape,r2.output,r2.size,fun k hk hne=>r2.block k hk (fun e=>hne (r3 k e.symm).symm)⟩ (.inr ((r1.lt g (by simp [Value.ownBlock])).1)) hc1 hc2
 rcases hown.2 with⟨hv,hn⟩ |⟨g,cap,cur,hv,hb,hg,hnc,hcm,hcs,htake⟩
 ·subst hv hn
  obtain rfl:xs=[]:=List.eq_nil_of_length_eq_zero (by simpa using hown.1)
  refine wpList_append_own w hgd s x t ho w.heap.size e i z size bytes ht hi hz hsize hby hzs hsz (.slice none 0 0) 0 [] hs (World.ownsRow_nil _ _ _ _) ad m c news hx hl hnews h1 h63 hbytes (Nat.le_refl _) ?_
  intro v' w' r1 r2 _
  exact fresh r1 r2 (fun k hk=>by simp [Value.ownBlock] at hk)
 ·subst hv
  by_cases hroom:n+m≤cap
  ·refine wpList_append_fits w hgd s x t ho 0 e i size ht hi hsize g n cap xs hs hown ad m c news hx hl hnews h1 hroom ?_
   intro w' r1 r2
   exact h g cap w' r1 r2 (.inl rfl) hroom hcm
  ·refine wpList_append_grows w hgd s x t ho e i z size bytes ht hi hz hsize hby hzs hsz (some ⟨g,0,none⟩) n cap xs hs (fun h=>by cases h) hown.1 (fun b hb'=>?_) ad m c news hx hl hnews h1 (by omega) h63 hbytes ?_
   ·cases hb'
    exact hown.cells (g:=g) rfl
   ·intro v' w' r1 r2
    exact fresh r1 r2 (fun k hk=>by cases hk)
theorem block_off {w:World} {b:Nat} {cs:Array Value} {t e:TypeId} {base size n:Nat} {v:Value} {xs:List Value} (hb:w.heap[b]?=some (.cells cs t (0,0))) (hr:w.ownsRow base e size v n xs) (hne:t≠e):some b≠v.ownBlock:=by
 intro h
 obtain⟨cur,hc⟩:=ownsRow_type hr b (by simp [←h])
 rw [hb] at hc
 simp at hc
 exact hne hc.2
theorem rows_off {w:World} {t e:TypeId} {base base' size size' n n':Nat} {v v':Value} {xs xs':List Value} (hr:w.ownsRow base t size v n xs) (hr':w.ownsRow base' e size' v' n' xs') (hne:t≠e):v.ownBlock=none∨v.ownBlock≠v'.ownBlock:=by
 cases hv:v.ownBlock with
 |none=>exact .inl rfl
 |some g=>
  right
  intro h
  obtain⟨cur,hc⟩:=ownsRow_type hr g (by simp [hv])
  obtain⟨cur',hc'⟩:=ownsRow_type hr' g (by simp [←h])
  rw [hc] at hc'
  simp at hc'
  exact hne hc'.2
def lenOf:Value→Nat
 | .slice _ n _=>n
 |_=>0
def OpsP (L:List Wd) (A:Except Bad (List Opn×Nat)) (w:World) (b:Nat) (ao:Option Addr) (cap:Nat) (r:Ending) (w':World):Prop:=
 ∃(v:Value) (ops:List Opn) (c:Nat) (e:Int),r= .returned v∧w'.heap[b]?=some (.cells (rdC ao L.length cap c e) 116 (0,0))∧Turned [b] w w'∧ORow w.heap.size w' v ops∧c≤L.length∧
  ((e=0∧A= .ok (ops,c+1)∧nextR L c=(3,[125],0,0))∨(e≠0∧A= .error (c,e)))
structure OpsW (L:List Wd) (A:Except Bad (List Opn×Nat)) (w wr:World) (b:Nat) (ao:Option Addr) (cap c:Nat) (e:Int) (ops:List Opn) (v:Value):Prop where
 st:OpsI L A c e ops
 rd:wr.heap[b]?=some (.cells (rdC ao L.length cap c e) 116 (0,0))
 tur:Turned [b] w wr
 row:ORow w.heap.size wr v ops
 le:c≤L.length
 bw:b < w.heap.size
theorem row_turned {w w':World} {b base:Nat} {e:TypeId} {size:Nat} {v:Value} {n:Nat} {xs:List Value} (h:w.ownsRow base e size v n xs) (t:Turned [b] w w') (hb:b < base):w'.ownsRow base e size v n xs:=
 row_same h fun k hk hl=>t.block k hl (by simp;omega)
theorem OpsW.below {L:List Wd} {A:Except Bad (List Opn×Nat)} {w wr wr':World} {b:Nat} {ao:Option Addr} {cap c:Nat} {e:Int} {ops:List Opn} {v:Value} (h:OpsW L A w wr b ao cap c e ops v) (hb:Below wr.heap.size wr wr'):OpsW L A w wr' b ao cap c e ops v:=
 ⟨h.st,(hb.block _ (lt_of_block h.rd)).trans h.rd,h.tur.trans (turned_below hb [b]) (Newer.refl _ _),row_below h.row hb,h.le,h.bw⟩
theorem OpsW.push {L:List Wd} {A:Except Bad (List Opn×Nat)} {w wr w1 w4:World} {b:Nat} {ao:Option Addr} {cap c c':Nat} {e e':Int} {ops:List Opn} {v v':Value} {o:Opn} (h:OpsW L A w wr b ao cap c e ops v)
  (t:Turned [b] wr w1) (hr:w1.heap[b]?=some (.cells (rdC ao L.length cap c' e') 116 (0,0))) (hst:OpsI L A c' e' (ops++[o])) (hle:c'≤L.length)
  (hown:w4.ownsRow w.heap.size 142 3 v' (ops.length+1) (opsC ops++opC o)) (hg:w1.grownBy w4 v.ownBlock):OpsW L A w w4 b ao cap c' e' (ops++[o]) v':=by
 have hrow1:=row_turned h.row t h.bw
 have hb:Below w.heap.size w1 w4:=app_below (Below.refl _ _) (Nat.le_trans h.tur.size t.size) (Nat.le_refl _) hrow1 hg
 have t2:=h.tur.trans t (Newer.refl _ _)
 refine⟨hst,(hb.block _ h.bw).trans hr,⟨hb.os.trans t2.os,hb.tape.trans t2.tape,hb.output.trans t2.output,Nat.le_trans t2.size hb.size,fun k hk hx=>(hb.block k hk).trans (t2.block k hk hx)⟩,?_,hle,h.bw⟩
 unfold ORow
 rw [opsC_snoc,List.length_append,List.length_singleton]
 exact hown
theorem OpsW.fin {L:List Wd} {A:Except Bad (List Opn×Nat)} {w wr:World} {b:Nat} {ao:Option Addr} {cap c:Nat} {e:Int} {ops:List Opn} {v:Value} (h:OpsW L A w wr b ao cap c e ops v)
  (he:(e=0∧A= .ok (ops,c+1)∧nextR L c=(3,[125],0,0))∨(e≠0∧A= .error (c,e))):OpsP L A w b ao cap (.returned v) wr:=
 ⟨v,ops,c,e,rfl,h.rd,h.tur,h.row,h.le,he⟩
theorem OpsW.failed {L:List Wd} {A:Except Bad (List Opn×Nat)} {w wr w1:World} {b:Nat} {ao:Option Addr} {cap c:Nat} {e e':Int} {ops:List Opn} {v:Value} (h:OpsW L A w wr b ao cap c e ops v)
  (t:Turned [b] wr w1) (hr:w1.heap[b]?=some (.cells (rdC ao L.length cap c e') 116 (0,0))) (he:e'≠0) (hA:A= .error (c,e')):OpsP L A w b ao cap (.returned v) w1:=
 ⟨v,ops,c,e',rfl,hr,h.tur.trans t (Newer.refl _ _),row_turned h.row t h.bw,h.le, .inr ⟨he,hA⟩⟩
theorem OpsI.dead {L:List Wd} {A:Except Bad (List Opn×Nat)} {c:Nat} {e:Int} {ops:List Opn} (h:OpsI L A c e ops) (he:e≠0):A= .error (c,e):=by
 rcases h with⟨h0,_⟩ |⟨_,_,h⟩
 ·exact absurd h0 he
 ·exact h
theorem OpsI.len {L:List Wd} {A:Except Bad (List Opn×Nat)} {c:Nat} {e:Int} {ops:List Opn} (h:OpsI L A c e ops):ops.length≤13∧(e=0→ops.length≤12):=by
 rcases h with⟨_,h,_⟩ |⟨h0,h,_⟩
 ·exact⟨by omega,fun _=>h⟩
 ·exact⟨h,fun e0=>absurd e0 h0⟩
theorem ops_any {w:World} {b:Nat} {ao:Option Addr} {bw off cap:Nat} {L:List Wd} {c0:Nat} (h:RdI w b ao bw off cap L c0 0) (hL:Clean L):
  Calls Tryz.prog 180 #[.pointer (some ⟨b,0,none⟩)] w (OpsP L (opsR L 13 c0 []) w b ao cap):=by
 obtain⟨i0,hi0,hz0,hz1,hz2⟩:=info_parts op_info
 have HRT:=xhd (fun V c' e' (t:Turned [b] w V) hr hc=>h.turned (c':=c') (e':=e') t hr hc)
 have HCL:=xhd hL
 have HMK:=xhd (fun s W=>pmark_any s W)
 have HST:Hid (OpsW L (opsR L 13 c0 []) w w b ao cap c0 0 [] (.slice none 0 0)):=⟨OpsI.start L c0,h.rd,Turned.refl _ _,World.ownsRow_nil _ _ _ _,h.le,lt_of_block h.rd⟩
 obtain⟨A,hA⟩:∃A,opsR L 13 c0 []=A:=⟨_,rfl⟩
 rw [hA] at HST ⊢
 clear hA h hL
 go_enter Tryz.func180,Tryz.ntmps180
 go_wp2_with fail
 go_loopw [3] (fun l' wr=>∃(c:Nat) (e:Int) (ops:List Opn),Hid (OpsW L A w wr b ao cap c e ops l')) (fun l' _=>13 - lenOf l')
 case atStart=>exact⟨c0,0,[],HST⟩
 case round=>
  obtain⟨c,e,ops,HW⟩:=hrel
  obtain⟨aov,capv,hv,_⟩:=ownsRow_shape HW.out.row
  subst hv
  obtain⟨m,hm⟩:∃m,ops.length=m:=⟨_,rfl⟩
  have HM:=xhd hm
  obtain⟨hl13,hl12⟩:=HW.out.st.len
  rw [hm] at HW hl13 hl12 ⊢
  obtain⟨d0,d1,d2⟩:=three_cells HW.out.rd
  by_cases he:e=0
  ·subst he
   have hl12:=hl12 rfl
   have HRI:=xhd (fun V (hb:Below wr.heap.size wr V)=>HRT.out V c 0 (HW.out.below hb).tur (HW.out.below hb).rd HW.out.le)
   have HNX:=xhd (fun V (hb:Below wr.heap.size wr V)=>next_any (HRI.out V hb))
   have HGL:=xhd (goes_live HW.out.rd)
   have hq:=fun W=>neq_words (nextR L c) (3,[125],0,0) W
   have hkd:=fun W=>kindof_any (nextR L c) W
   obtain⟨y0,ty,y2,hy⟩:=next_form L c
   unfold wdV at hq hkd HNX
   obtain⟨tb,htb⟩:∃t:ByteArray,⟨ty.toArray⟩=t:=⟨_,rfl⟩
   obtain⟨kq,hkq⟩:∃kq,kindQ (nextR L c)=kq:=⟨_,rfl⟩
   simp only [hkq] at hkd
   simp only [hy,htb] at HNX hkd
   have hq2:∀W,(binOp .neq 95 (.agg #[.int .i64 y0, .string tb, .int .i64 y2, .int .i64 0]) (.agg #[.int .i64 3, .string ⟨#[125]⟩, .int .i64 0, .int .i64 0])).run Tryz.prog W= .ok (.bool (!decide (nextR L c=((3,[125],0,0):Wd)))) W:=fun W=>by
    have h:=hq W
    simp only [hy,htb] at h
    rw [hy]
    exact h
   have HKD:=xhd hkd
   clear hq hkd
   cases hd:decide (nextR L c=((3,[125],0,0):Wd)) with
   |true=>
    rw [hd] at hq2
    have hA:=HW.out.st.last HCL.out (of_decide_eq_true hd)
    have HN:=xhd (of_decide_eq_true hd)
    clear hd hy htb hkq hm
    go_wp2_with fail
    with_reducible refine HGL.out.mono ?_
    rintro r wr ⟨rfl,rfl⟩
    go_wp2_with fail
    with_reducible refine (HNX.out _ (Below.refl _ _)).mono ?_
    rintro r w1 ⟨rfl,hb1⟩
    have HB1:=xhd hb1
    clear hb1
    go_wp2_with fail
    with_reducible refine (HMK.out _ _).mono ?_
    rintro r w2 ⟨rfl,hb2⟩
    have HB2:=xhd (HB1.out.trans (hb2.mono HB1.out.size))
    clear hb2 d0 d1 d2
    by_cases h0:m=0
    ·have hops:ops=[]:=List.eq_nil_of_length_eq_zero (HM.out.trans h0)
     rw [if_pos hops] at hA
     subst h0
     have HAA:=xhd hA
     have HFL:=xhd (fail_live (HW.out.below HB2.out).rd 4)
     clear hA hops
     go_wp2_with fail
     with_reducible refine HFL.out.mono ?_
     rintro r w3 ⟨rfl,hr,ht⟩
     have HFIN:=xhd ((HW.out.below HB2.out).failed ht hr (by decide) HAA.out)
     clear hr ht
     go_wp2
     go_ret
     exact HFIN.out
    ·have hops:¬ops=[]:=by
       rintro rfl
       exact h0 HM.out.symm
     rw [if_neg hops] at hA
     have HFIN:=xhd ((HW.out.below HB2.out).fin (.inl ⟨rfl,hA,HN.out⟩))
     have h0b:((m:Int) == 0)=false:=by simp;omega
     clear hA hops
     go_wp2
     go_ret
     exact HFIN.out
   |false=>
    rw [hd] at hq2
    have hne:=of_decide_eq_false hd
    have hstep:=fun e1 (he:e1=if ops.length=12∧kindQ (nextR L c)≠0 then (6:Int) else 0)=>HW.out.st.step HCL.out hne he
    rw [HM.out,hkq] at hstep
    have HQL:=xhd (fun e1=>opQ_le (L:=L) (c:=c) (e:=e1) HW.out.le)
    have HOP:=xhd (fun V e1 (hV:RdI V b ao bw off cap L c e1)=>op_any hV HCL.out)
    by_cases h12:m=12
    ·by_cases hk0:kq≠0
     ·obtain⟨c',e',o,hoq⟩:∃c' e' o,opQ L c 6=(o,c',e'):=⟨_,_,_,rfl⟩
      obtain⟨ok,oa,ob⟩:=o
      have hsx:=hstep 6 (by rw [if_pos ⟨h12,hk0⟩])
      have hqx:=HQL.out 6
      have hox:=fun V hV=>HOP.out V 6 hV
      rw [hoq] at hsx hqx
      simp only [hoq] at hox
      unfold opV at hox
      simp only at hsx hqx hox
      have HSX:=xhd hsx
      have HQLX:=xhd hqx
      have HOPX:=xhd hox
      clear hsx hqx hox hoq hstep hne hd hy htb hkq hm
      have kb:(((kq:Nat):Int) != 0)=true:=by simp;omega
      have kb2:(((kq:Nat):Int) == 0)=false:=by simp;omega
      subst h12
      go_wp2_with fail
      with_reducible refine HGL.out.mono ?_
      rintro r wr ⟨rfl,rfl⟩
      go_wp2_with fail
      with_reducible refine (HNX.out _ (Below.refl _ _)).mono ?_
      rintro r w1 ⟨rfl,hb1⟩
      have HB1:=xhd hb1
      clear hb1
      go_wp2_with fail
      with_reducible refine (HMK.out _ _).mono ?_
      rintro r w2 ⟨rfl,hb2⟩
      have HB2:=xhd (HB1.out.trans (hb2.mono HB1.out.size))
      clear hb2 d0 d1 d2
      go_wp2_with fail
      with_reducible refine (HNX.out _ HB2.out).mono ?_
      rintro r w3 ⟨rfl,hb3⟩
      have HB3:=xhd (HB2.out.trans (hb3.mono HB2.out.size))
      clear hb3
      go_wp2_with fail
      with_reducible refine (HKD.out _).mono ?_
      rintro r w4 ⟨rfl,hb4⟩
      have HB4:=xhd (HB3.out.trans (hb4.mono HB3.out.size))
      clear hb4
      have HFL:=xhd (fail_live (HW.out.below HB4.out).rd 6)
      go_wp2_with fail
      with_reducible refine HFL.out.mono ?_
      rintro r w7 ⟨rfl,hr,ht⟩
      have HT7:=xhd ((turned_below HB4.out [b]).trans ht (Newer.refl _ _))
      have HR7:=xhd (HRT.out _ c 6 (HW.out.tur.trans HT7.out (Newer.refl _ _)) hr HW.out.le)
      clear hr ht
      go_wp2_with fail
      with_reducible refine (HOPX.out _ HR7.out).mono ?_
      rintro r w5 ⟨rfl,hr,ht⟩
      have HR5:=xhd hr
      have HT5:=xhd ht
      clear hr ht
      have HT6:=xhd (HT7.out.trans HT5.out (Newer.refl _ _))
      go_wp2_with (at_builtin;refine wpList_append_own _ rfl _ _ 47 rfl w.heap.size 142 i0 (.agg #[.int .i64 0, .int .i64 0, .int .i64 0]) 3 24 Tryz.underlying47 hi0 hz0 hz1 hz2 rfl (by decide) _ _ _ rfl (row_below (row_turned HW.out.row HT6.out HW.out.bw) ((Below.refl _ _).alloc (Nat.le_refl _) _)) ⟨_,0,none⟩ 1 1 [.int .i64 ok, .int .i64 oa, .int .i64 ob] rfl rfl ?c1 ?c2 ?c3 ?c4 ?c5 ?_)
      case c1=>exact op_new _ _ _ _ _
      case c2=>
       intro u hu
       simp at hu
       rcases hu with rfl|rfl|rfl<;>rfl
      case c3=>(have:=HM.out;unfold maxLen;omega)
      case c4=>(have:=HM.out;omega)
      case c5=>exact Nat.le_trans (Nat.le_trans HW.out.tur.size HT6.out.size) (by simp)
      intro v' w6 hown hgrow _
      obtain⟨ao4,cap4,hv4,_⟩:=ownsRow_shape hown
      subst hv4
      have HP:=xhd (OpsW.push HW.out (HT6.out.alloc (.cells #[.int .i64 ok, .int .i64 oa, .int .i64 ob] 142)) ((Below.heap_alloc _ _ _ (lt_of_block HR5.out)).trans HR5.out) HSX.out HQLX.out hown hgrow)
      clear hown hgrow
      go_wp2
      go_roundw
      case rel=>exact⟨_,_,_,HP⟩
      case measure=>(have:=HM.out;simp [lenOf];omega)
     ·obtain⟨c',e',o,hoq⟩:∃c' e' o,opQ L c 0=(o,c',e'):=⟨_,_,_,rfl⟩
      obtain⟨ok,oa,ob⟩:=o
      have hsx:=hstep 0 (by rw [if_neg (fun h=>hk0 h.2)])
      have hqx:=HQL.out 0
      have hox:=fun V hV=>HOP.out V 0 hV
      rw [hoq] at hsx hqx
      simp only [hoq] at hox
      unfold opV at hox
      simp only at hsx hqx hox
      have HSX:=xhd hsx
      have HQLX:=xhd hqx
      have HOPX:=xhd hox
      clear hsx hqx hox hoq hstep hne hd hy htb hkq hm
      subst h12
      have k0:kq=0:=by simpa using hk0
      subst k0
      clear hk0
      go_wp2_with fail
      with_reducible refine HGL.out.mono ?_
      rintro r wr ⟨rfl,rfl⟩
      go_wp2_with fail
      with_reducible refine (HNX.out _ (Below.refl _ _)).mono ?_
      rintro r w1 ⟨rfl,hb1⟩
      have HB1:=xhd hb1
      clear hb1
      go_wp2_with fail
      with_reducible refine (HMK.out _ _).mono ?_
      rintro r w2 ⟨rfl,hb2⟩
      have HB2:=xhd (HB1.out.trans (hb2.mono HB1.out.size))
      clear hb2 d0 d1 d2
      go_wp2_with fail
      with_reducible refine (HNX.out _ HB2.out).mono ?_
      rintro r w3 ⟨rfl,hb3⟩
      have HB3:=xhd (HB2.out.trans (hb3.mono HB2.out.size))
      clear hb3
      go_wp2_with fail
      with_reducible refine (HKD.out _).mono ?_
      rintro r w4 ⟨rfl,hb4⟩
      have HB4:=xhd (HB3.out.trans (hb4.mono HB3.out.size))
      clear hb4
      go_wp2_with fail
      with_reducible refine (HOPX.out _ (HRI.out _ HB4.out)).mono ?_
      rintro r w5 ⟨rfl,hr,ht⟩
      have HR5:=xhd hr
      have HT5:=xhd ht
      clear hr ht
      have HT6:=xhd ((turned_below HB4.out [b]).trans HT5.out (Newer.refl _ _))
      go_wp2_with (at_builtin;refine wpList_append_own _ rfl _ _ 47 rfl w.heap.size 142 i0 (.agg #[.int .i64 0, .int .i64 0, .int .i64 0]) 3 24 Tryz.underlying47 hi0 hz0 hz1 hz2 rfl (by decide) _ _ _ rfl (row_below (row_turned HW.out.row HT6.out HW.out.bw) ((Below.refl _ _).alloc (Nat.le_refl _) _)) ⟨_,0,none⟩ 1 1 [.int .i64 ok, .int .i64 oa, .int .i64 ob] rfl rfl ?c1 ?c2 ?c3 ?c4 ?c5 ?_)
      case c1=>exact op_new _ _ _ _ _
      case c2=>
       intro u hu
       simp at hu
       rcases hu with rfl|rfl|rfl<;>rfl
      case c3=>(have:=HM.out;unfold maxLen;omega)
      case c4=>(have:=HM.out;omega)
      case c5=>exact Nat.le_trans (Nat.le_trans HW.out.tur.size HT6.out.size) (by simp)
      intro v' w6 hown hgrow _
      obtain⟨ao4,cap4,hv4,_⟩:=ownsRow_shape hown
      subst hv4
      have HP:=xhd (OpsW.push HW.out (HT6.out.alloc (.cells #[.int .i64 ok, .int .i64 oa, .int .i64 ob] 142)) ((Below.heap_alloc _ _ _ (lt_of_block HR5.out)).trans HR5.out) HSX.out HQLX.out hown hgrow)
      clear hown hgrow
      go_wp2
      go_roundw
      case rel=>exact⟨_,_,_,HP⟩
      case measure=>(have:=HM.out;simp [lenOf];omega)
    ·obtain⟨c',e',o,hoq⟩:∃c' e' o,opQ L c 0=(o,c',e'):=⟨_,_,_,rfl⟩
     obtain⟨ok,oa,ob⟩:=o
     have hsx:=hstep 0 (by rw [if_neg (fun h=>h12 h.1)])
     have hqx:=HQL.out 0
     have hox:=fun V hV=>HOP.out V 0 hV
     rw [hoq] at hsx hqx
     simp only [hoq] at hox
     unfold opV at hox
     simp only at hsx hqx hox
     have HSX:=xhd hsx
     have HQLX:=xhd hqx
     have HOPX:=xhd hox
     clear hsx hqx hox hoq hstep hne hd hy htb hkq hm
     have m12:((m:Int) == 12)=false:=by simp;omega
     go_wp2_with fail
     with_reducible refine HGL.out.mono ?_
     rintro r wr ⟨rfl,rfl⟩
     go_wp2_with fail
     with_reducible refine (HNX.out _ (Below.refl _ _)).mono ?_
     rintro r w1 ⟨rfl,hb1⟩
     have HB1:=xhd hb1
     clear hb1
     go_wp2_with fail
     with_reducible refine (HMK.out _ _).mono ?_
     rintro r w2 ⟨rfl,hb2⟩
     have HB2:=xhd (HB1.out.trans (hb2.mono HB1.out.size))
     clear hb2 d0 d1 d2
     go_wp2_with fail
     with_reducible refine (HOPX.out _ (HRI.out _ HB2.out)).mono ?_
     rintro r w5 ⟨rfl,hr,ht⟩
     have HR5:=xhd hr
     have HT5:=xhd ht
     clear hr ht
     have HT6:=xhd ((turned_below HB2.out [b]).trans HT5.out (Newer.refl _ _))
     go_wp2_with (at_builtin;refine wpList_append_own _ rfl _ _ 47 rfl w.heap.size 142 i0 (.agg #[.int .i64 0, .int .i64 0, .int .i64 0]) 3 24 Tryz.underlying47 hi0 hz0 hz1 hz2 rfl (by decide) _ _ _ rfl (row_below (row_turned HW.out.row HT6.out HW.out.bw) ((Below.refl _ _).alloc (Nat.le_refl _) _)) ⟨_,0,none⟩ 1 1 [.int .i64 ok, .int .i64 oa, .int .i64 ob] rfl rfl ?c1 ?c2 ?c3 ?c4 ?c5 ?_)
     case c1=>exact op_new _ _ _ _ _
     case c2=>
      intro u hu
      simp at hu
      rcases hu with rfl|rfl|rfl<;>rfl
     case c3=>(have:=HM.out;unfold maxLen;omega)
     case c4=>(have:=HM.out;omega)
     case c5=>exact Nat.le_trans (Nat.le_trans HW.out.tur.size HT6.out.size) (by simp)
     intro v' w6 hown hgrow _
     obtain⟨ao4,cap4,hv4,_⟩:=ownsRow_shape hown
     subst hv4
     have HP:=xhd (OpsW.push HW.out (HT6.out.alloc (.cells #[.int .i64 ok, .int .i64 oa, .int .i64 ob] 142)) ((Below.heap_alloc _ _ _ (lt_of_block HR5.out)).trans HR5.out) HSX.out HQLX.out hown hgrow)
     clear hown hgrow
     go_wp2
     go_roundw
     case rel=>exact⟨_,_,_,HP⟩
     case measure=>(have:=HM.out;simp [lenOf];omega)
  ·have hA:=HW.out.st.dead he
   have HGD:=xhd (goes_dead he HW.out.rd)
   by_cases h0:m=0
   ·subst h0
    have HFL:=xhd (fail_dead he HW.out.rd 4)
    have HAA:=xhd hA
    have HEE:=xhd he
    clear hA he hm
    go_wp2_with fail
    with_reducible refine HGD.out.mono ?_
    rintro r wr ⟨rfl,rfl⟩
    go_wp2_with fail
    with_reducible refine HFL.out.mono ?_
    rintro r w3 ⟨rfl,hr,ht⟩
    have HFIN:=xhd (HW.out.failed ht hr HEE.out HAA.out)
    clear hr ht
    go_wp2
    go_ret
    exact HFIN.out
   ·have HFIN:=xhd (HW.out.fin (.inr ⟨he,hA⟩))
    have h0b:((m:Int) == 0)=false:=by simp;omega
    clear hA hm he
    go_wp2_with fail
    with_reducible refine HGD.out.mono ?_
    rintro r wr ⟨rfl,rfl⟩
    go_wp2
    go_ret
    exact HFIN.out
theorem ops_dead {w:World} {b:Nat} {ao:Option Addr} {n cap c:Nat} {e:Int} (h:w.heap[b]?=some (.cells (rdC ao n cap c e) 116 (0,0))) (he:e≠0):
  Calls Tryz.prog 180 #[.pointer (some ⟨b,0,none⟩)] w (StepP (.slice none 0 0) w b ao n cap c e):=by
 have HFL:=xhd (fail_dead he h 4)
 have HGD:=xhd (goes_dead he h)
 clear h he
 go_enter Tryz.func180,Tryz.ntmps180
 go_wp2_with fail
 go_loopw [3] (fun l' wr=>l'= .slice none 0 0∧wr=w) (fun l' _=>lenOf l')
 case atStart=>exact⟨rfl,rfl⟩
 case round=>
  obtain⟨rfl,rfl⟩:=hrel
  go_wp2_with fail
  with_reducible refine HGD.out.mono ?_
  rintro r w ⟨rfl,rfl⟩
  go_wp2_with fail
  with_reducible refine HFL.out.mono ?_
  rintro r w3 ⟨rfl,hr,ht⟩
  have HR:=xhd hr
  have HT:=xhd ht
  clear hr ht
  go_wp2
  go_ret
  exact⟨rfl,HR.out,HT.out⟩
def OpsQ (L:List Wd) (c:Nat) (e:Int) (ops:List Opn) (c':Nat) (e':Int):Prop:=
 (e≠0∧ops=[]∧c'=c∧e'=e)∨(e=0∧((e'=0∧opsR L 13 c []= .ok (ops,c'+1)∧nextR L c'=(3,[125],0,0))∨(e'≠0∧opsR L 13 c []= .error (c',e'))))
theorem ops_both {w:World} {b:Nat} {ao:Option Addr} {bw off cap:Nat} {L:List Wd} {c:Nat} {e:Int} (h:RdI w b ao bw off cap L c e) (hL:Clean L):
  Calls Tryz.prog 180 #[.pointer (some ⟨b,0,none⟩)] w fun r w'=>∃(v:Value) (ops:List Opn) (c':Nat) (e':Int),r= .returned v∧w'.heap[b]?=some (.cells (rdC ao L.length cap c' e') 116 (0,0))∧Turned [b] w w'∧ORow w.heap.size w' v ops∧c'≤L.length∧OpsQ L c e ops c' e':=by
 by_cases he:e=0
 ·subst he
  refine (ops_any h hL).mono ?_
  rintro r w' ⟨v,ops,c',e',h1,h2,h3,h4,h5,h6⟩
  exact⟨v,ops,c',e',h1,h2,h3,h4,h5, .inr ⟨rfl,h6⟩⟩
 ·refine (ops_dead h.rd he).mono ?_
  rintro r w' ⟨h1,h2,h3⟩
  exact⟨_,[],c,e,h1,h2,h3,World.ownsRow_nil _ _ _ _,h.le, .inl ⟨he,rfl,rfl,rfl⟩⟩
def tkQ (L:List Wd) (c:Nat) (e:Int) (x:Wd):Bool×Nat×Int:=if e=0∧nextR L c=x then (true,c+1,0) else (false,c,e)
theorem tkQ_le {L:List Wd} {c:Nat} {e:Int} {x:Wd} (h:c≤L.length) (hx:x.1≠0):(tkQ L c e x).2.1≤L.length:=by
 unfold tkQ
 split
 ·next hh=>
  have:=next_lt (L:=L) (c:=c) (by rw [hh.2];exact hx)
  exact this
 ·exact h
theorem take_any {w:World} {b:Nat} {ao:Option Addr} {bw off cap:Nat} {L:List Wd} {c:Nat} {e:Int} (h:RdI w b ao bw off cap L c e) (x:Wd) (hx0:x.1≠0:=by simp):
  Calls Tryz.prog 177 #[.pointer (some ⟨b,0,none⟩),wdV x] w (StepP (.bool (tkQ L c e x).1) w b ao L.length cap (tkQ L c e x).2.1 (tkQ L c e x).2.2):=by
 unfold tkQ
 by_cases hh:e=0∧nextR L c=x
 ·rw [if_pos hh]
  obtain⟨rfl,hx⟩:=hh
  exact take_yes h (next_lt (by rw [hx];exact hx0)) hx
 ·rw [if_neg hh]
  exact take_fail h (by
   by_cases he:e=0
   ·exact .inr fun hx=>hh ⟨he,hx⟩
   ·exact .inl he)
theorem prog_res {fn:Func} {p:Tmp} (hf:fn.results= #[.cell p 49]) {tmps:Array Value} {w:World} {B:Nat} {a b:Value} (hp:tmps.getD p undef= .pointer (some ⟨B,0,none⟩)) (h:w.heap[B]?=some (.cells #[a,b] 49 (0,0))):
  (results fn tmps).run Tryz.prog w= .ok (.agg #[a,b]) w:=by
 obtain⟨h0,h1⟩:=two_cells h
 rw [results_one hf,hp]
 simp [loadVar,go_sem,h0,h1]
structure PF (w V:World) (b:Nat) (f:Bool) (ov:Value) (rc:Array Value):Prop where
 res:V.heap[w.heap.size]?=some zeroP
 prg:V.heap[w.heap.size+1]?=some (.cells #[.bool f,ov] 49 (0,0))
 rd:V.heap[b]?=some (.cells rc 116 (0,0))
 tur:Turned [b] w V
 bw:b < w.heap.size
theorem PF.siz {w V:World} {b:Nat} {f:Bool} {ov:Value} {rc:Array Value} (h:PF w V b f ov rc):w.heap.size+2≤V.heap.size:=lt_of_block h.prg
theorem PF.step {w V V':World} {b:Nat} {f:Bool} {ov:Value} {rc rc':Array Value} (h:PF w V b f ov rc) (t:Turned [b] V V') (hr:V'.heap[b]?=some (.cells rc' 116 (0,0))):PF w V' b f ov rc':=by
 have h1:=h.bw
 exact⟨t.same h.res (by simp;omega),t.same h.prg (by simp;omega),hr,h.tur.trans t (Newer.refl _ _),h1⟩
theorem PF.below {w V V':World} {b:Nat} {f:Bool} {ov:Value} {rc:Array Value} (h:PF w V b f ov rc) (hb:Below V.heap.size V V'):PF w V' b f ov rc:=
 h.step (turned_below hb [b]) ((hb.block _ (lt_of_block h.rd)).trans h.rd)
theorem PF.setF {w V:World} {b:Nat} {f:Bool} {ov:Value} {rc:Array Value} (h:PF w V b f ov rc) (f':Bool):PF w (V.setCell ⟨w.heap.size+1,0,none⟩ (.bool f')) b f' ov rc:=by
 have h1:=h.bw
 refine⟨(Below.heap_setCell _ _ _ _ (by show w.heap.size≠w.heap.size+1;omega)).trans h.res,?_,(Below.heap_setCell _ _ _ _ (by show b≠w.heap.size+1;omega)).trans h.rd,h.tur.setCell (.inr (by show w.heap.size≤w.heap.size+1;omega)) _,h1⟩
 rw [heap_setCell_same _ _ _ _ _ _ h.prg]
 rfl
theorem PF.setO {w V:World} {b:Nat} {f:Bool} {ov:Value} {rc:Array Value} (h:PF w V b f ov rc) (ov':Value):PF w (V.setCell ⟨w.heap.size+1,1,none⟩ ov') b f ov' rc:=by
 have h1:=h.bw
 refine⟨(Below.heap_setCell _ _ _ _ (by show w.heap.size≠w.heap.size+1;omega)).trans h.res,?_,(Below.heap_setCell _ _ _ _ (by show b≠w.heap.size+1;omega)).trans h.rd,h.tur.setCell (.inr (by show w.heap.size≤w.heap.size+1;omega)) _,h1⟩
 rw [heap_setCell_same _ _ _ _ _ _ h.prg]
 rfl
theorem PF.start {w:World} {b:Nat} {rc:Array Value} (hr:w.heap[b]?=some (.cells rc 116 (0,0))):PF w ((w.alloc zeroP).alloc zeroP) b false (.slice none 0 0) rc:=by
 have hb:=lt_of_block hr
 obtain⟨h1,h2,h3,_⟩:=start_facts w false
 exact⟨h1,h2,(h3.block _ hb).trans hr,turned_below h3 [b],hb⟩
theorem PF.fin {w V:World} {b:Nat} {f:Bool} {ov:Value} {rc:Array Value} (h:PF w V b f ov rc) {ops:List Opn} (hrow:ORow (w.heap.size+2) V ov ops) (x y:Value):
  ((V.setCell ⟨w.heap.size,0,none⟩ x).setCell ⟨w.heap.size,1,none⟩ y).heap[w.heap.size]?=some (.cells #[x,y] 49 (0,0))∧
  ((V.setCell ⟨w.heap.size,0,none⟩ x).setCell ⟨w.heap.size,1,none⟩ y).heap[b]?=some (.cells rc 116 (0,0))∧
  Turned [b] w ((V.setCell ⟨w.heap.size,0,none⟩ x).setCell ⟨w.heap.size,1,none⟩ y)∧ORow w.heap.size ((V.setCell ⟨w.heap.size,0,none⟩ x).setCell ⟨w.heap.size,1,none⟩ y) ov ops:=by
 have hne:b≠w.heap.size:=by have:=h.bw;omega
 refine⟨two_stored h.res,?_,(h.tur.setCell (.inr (Nat.le_refl _)) _).setCell (.inr (Nat.le_refl _)) _,?_⟩
 ·rw [Below.heap_setCell _ _ _ _ hne,Below.heap_setCell _ _ _ _ hne]
  exact h.rd
 ·refine row_base (row_same hrow fun k hk hl=>?_) (by omega)
  have hk2:k≠w.heap.size:=by omega
  rw [Below.heap_setCell _ _ _ _ hk2,Below.heap_setCell _ _ _ _ hk2]
def ProgQ (L:List Wd) (a:Nat) (f:Bool) (ops:List Opn) (c:Nat) (e:Int):Prop:=
 (e=0∧parseR L a=((f,ops),(c:Int),0))∨(e≠0∧parseR L a=((false,[]),(c:Int),e))
theorem prog_plain {L:List Wd} (hL:Clean L) {a:Nat} (ha:a≤L.length) {c1:Nat} {e1:Int} (h1:needQ L a 0 (1,progB,0,0)=(c1,e1)) {f:Bool} {c2:Nat} {e2:Int} (h2:tkQ L c1 e1 (1,foreverB,0,0)=(f,c2,e2))
  {c3:Nat} {e3:Int} (h3:needQ L c2 e2 (3,[123],0,0)=(c3,e3)) {ops:List Opn} {c4:Nat} {e4:Int} (h4:OpsQ L c3 e3 ops c4 e4) {c5:Nat} {e5:Int} (h5:needQ L c4 e4 (3,[125],0,0)=(c5,e5)):ProgQ L a f ops c5 e5:=by
 have dead:∀ {c:Nat} {e:Int},e≠0→c3=c→e3=e→c5=c∧e5=e:=by
  intro c e he hc hee
  subst hc hee
  rcases h4 with⟨_,_,rfl,rfl⟩ |⟨h0,_⟩
  ·rw [need_dead he] at h5
   simp only [Prod.mk.injEq] at h5
   exact⟨h5.1.symm,h5.2.symm⟩
  ·exact absurd h0 he
 rw [need_live] at h1
 cases hp:isR L a 1 progB with
 |false=>
  have hp2:=hp
  rw [is_next hL (.inl rfl),decide_eq_false_iff_not] at hp2
  rw [if_neg hp2] at h1
  simp only [Prod.mk.injEq] at h1
  obtain⟨rfl,rfl⟩:=h1
  unfold tkQ at h2
  rw [if_neg (fun h=>by have:=h.1;omega)] at h2
  simp only [Prod.mk.injEq] at h2
  obtain⟨rfl,rfl,rfl⟩:=h2
  rw [need_dead (by decide)] at h3
  simp only [Prod.mk.injEq] at h3
  obtain⟨q1,q2⟩:=dead (by decide) h3.1.symm h3.2.symm
  subst q1 q2
  exact .inr ⟨by decide,parse_prog ha hp⟩
 |true=>
  have hp2:=hp
  rw [is_next hL (.inl rfl),decide_eq_true_eq] at hp2
  rw [if_pos hp2] at h1
  simp only [Prod.mk.injEq] at h1
  obtain⟨rfl,rfl⟩:=h1
  have ho:openR L (a+1)=(f,c2)∧e2=0:=by
   unfold openR
   rw [is_next hL (.inl rfl)]
   unfold tkQ at h2
   by_cases hf:nextR L (a+1)=(1,foreverB,0,0)
   ·rw [if_pos ⟨rfl,hf⟩] at h2
    simp only [Prod.mk.injEq] at h2
    obtain⟨rfl,rfl,rfl⟩:=h2
    rw [decide_eq_true hf]
    exact⟨rfl,rfl⟩
   ·rw [if_neg (fun h=>hf h.2)] at h2
    simp only [Prod.mk.injEq] at h2
    obtain⟨rfl,rfl,rfl⟩:=h2
    rw [decide_eq_false hf]
    exact⟨rfl,rfl⟩
  obtain⟨ho,rfl⟩:=ho
  rw [need_live] at h3
  cases hb:isR L c2 3 [123] with
  |false=>
   have hb2:=hb
   rw [is_next hL (.inr rfl),decide_eq_false_iff_not] at hb2
   rw [if_neg hb2] at h3
   simp only [Prod.mk.injEq] at h3
   obtain⟨q1,q2⟩:=dead (by decide) h3.1.symm h3.2.symm
   subst q1 q2
   exact .inr ⟨by decide,parse_open ha hp ho hb⟩
  |true=>
   have hb2:=hb
   rw [is_next hL (.inr rfl),decide_eq_true_eq] at hb2
   rw [if_pos hb2] at h3
   simp only [Prod.mk.injEq] at h3
   obtain⟨rfl,rfl⟩:=h3
   have hP:=parse_ops ha hp ho hb
   rcases h4 with⟨h0,_⟩ |⟨_,⟨rfl,hA,hn⟩ |⟨h4n,hA⟩⟩
   ·exact absurd rfl h0
   ·rw [need_live,if_pos hn] at h5
    simp only [Prod.mk.injEq] at h5
    obtain⟨rfl,rfl⟩:=h5
    refine .inl ⟨rfl,?_⟩
    rw [hP,hA]
    rfl
   ·rw [need_dead h4n] at h5
    simp only [Prod.mk.injEq] at h5
    obtain⟨rfl,rfl⟩:=h5
    refine .inr ⟨h4n,?_⟩
    rw [hP,hA]
    rfl
end Go.Proofs.YtbnhnnccioljhaaGreatDoor
