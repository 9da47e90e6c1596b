/-
  The document's reader of setups: need, long, field.
  The document's reader of setups: long, field.
  The document's takes, Section.
-/
import Derived.Test.YtbnhnnccioljhaaGreatDoorZAF
import Derived.Test.YtbnhnnccioljhaaGreatDoorZAA
import Derived.Test.YtbnhnnccioljhaaGreatDoorZAB
import Derived.Deep.LoopGhost
import Derived.Test.YtbnhnnccioljhaaGreatDoorZAl
set_option maxRecDepth 100000
set_option maxHeartbeats 25600000
namespace Go.Proofs.YtbnhnnccioljhaaGreatDoor
open Go.RowKit
def RsP (b:Nat) (ao:Option Addr) (bw off cap:Nat) (L:List Wd) (s':Rd) (w w':World):Prop:=RsI w' b ao bw off cap L s'∧Turned [b] w w'
theorem is_room {L:List Wd} {s:Rd} {k:Int} {t:List By} (hi:isS L s k t=true):s.1 < L.length∧s.2=0:=by
 unfold isS isR at hi
 simp only [Bool.and_eq_true,decide_eq_true_eq] at hi
 obtain⟨h0,h1⟩:=hi
 refine⟨?_,h0⟩
 by_cases hc:s.1 < L.length
 ·exact hc
 ·rw [List.getElem?_eq_none (by omega)] at h1
  cases h1
theorem rsneed_any {w:World} {b:Nat} {ao:Option Addr} {bw off cap:Nat} {L:List Wd} {s:Rd} (h:RsI w b ao bw off cap L s) (k:Int) (t:ByteArray):
  Calls Tryz.prog 76 #[.pointer (some ⟨b,0,none⟩), .int .i64 k, .string t] w fun r w'=>r= .returned (.tuple #[])∧RsP b ao bw off cap L (needS L s k t.data.toList) w w':=by
 have hi:=rsis_any h k t
 have HI:=xhd hi
 have HR:=xhd h
 have hm:=h.len
 cases hq:isS L s k t.data.toList with
 |true=>
  obtain⟨hc,he⟩:=is_room hq
  have e1:needS L s k t.data.toList=(s.1+1,s.2):=by unfold needS;rw [if_pos hq]
  rw [e1]
  rw [hq] at HI
  obtain⟨c,e⟩:=s
  simp only at hc he ⊢
  have cw:IntKind.i64.wrap ((c:Int)+1)=((c+1:Nat):Int):=by rw [IntKind.wrap_i64];omega
  clear h hi hq e1
  go_enter Tryz.func76,Tryz.ntmps76
  go_wp2_with fail
  with_reducible refine HI.out.mono ?_
  rintro r w1 ⟨rfl,n1,rfl⟩
  have HR1:=xhd (HR.out.drewN n1)
  obtain⟨d0,d1,d2⟩:=op_cells HR1.out.rd
  have f1:=frozen_of_row _ _ 1 _ _ HR1.out.rd
  go_wp2
  have hs:=HR1.out.setAt (c':=c+1) (by omega)
  go_end0
  exact⟨rfl,hs.1,(Turned.refl [b] w).drewN n1 |>.trans hs.2 (fun _ h=> .inl h)⟩
 |false=>
  rw [hq] at HI
  by_cases he:s.2=0
  ·have e1:needS L s k t.data.toList=(s.1,5):=by unfold needS;rw [if_neg (by rw [hq];decide),if_pos he]
   rw [e1]
   obtain⟨c,e⟩:=s
   simp only at he ⊢
   subst he
   clear h hi hq e1
   go_enter Tryz.func76,Tryz.ntmps76
   go_wp2_with fail
   with_reducible refine HI.out.mono ?_
   rintro r w1 ⟨rfl,n1,rfl⟩
   have HR1:=xhd (HR.out.drewN n1)
   obtain⟨d0,d1,d2⟩:=op_cells HR1.out.rd
   have f2:=frozen_of_row _ _ 2 _ _ HR1.out.rd
   go_wp2
   have hs:=HR1.out.setBad 5
   go_end0
   exact⟨rfl,hs.1,(Turned.refl [b] w).drewN n1 |>.trans hs.2 (fun _ h=> .inl h)⟩
  ·have e1:needS L s k t.data.toList=s:=by unfold needS;rw [if_neg (by rw [hq];decide),if_neg he]
   rw [e1]
   obtain⟨c,e⟩:=s
   simp only at he ⊢
   have ee:(e == 0)=false:=by simpa using he
   clear h hi hq e1
   go_enter Tryz.func76,Tryz.ntmps76
   go_wp2_with fail
   with_reducible refine HI.out.mono ?_
   rintro r w1 ⟨rfl,n1,rfl⟩
   have HR1:=xhd (HR.out.drewN n1)
   obtain⟨d0,d1,d2⟩:=op_cells HR1.out.rd
   go_wp2
   go_end0
   exact⟨rfl,HR1.out,(Turned.refl [b] w).drewN n1⟩
def longS (s:Rd) (n most:Int):Bool×Rd:=if s.2=0∧most≤n then (true,(s.1,6)) else (decide (s.2≠0),s)
theorem rslong_any {w:World} {b:Nat} {ao:Option Addr} {bw off cap:Nat} {L:List Wd} {s:Rd} (h:RsI w b ao bw off cap L s) (n most:Int):
  Calls Tryz.prog 78 #[.pointer (some ⟨b,0,none⟩), .int .i64 n, .int .i64 most] w fun r w'=>r= .returned (.bool (longS s n most).1)∧RsP b ao bw off cap L (longS s n most).2 w w':=by
 have HR:=xhd h
 obtain⟨c,e⟩:=s
 obtain⟨d0,d1,d2⟩:=op_cells h.rd
 have f2:=frozen_of_row _ _ 2 _ _ h.rd
 simp only at d0 d1 d2
 by_cases he:e=0
 ·subst he
  by_cases hn:most≤n
  ·have e1:longS (c,0) n most=(true,(c,6)):=by unfold longS;rw [if_pos ⟨rfl,hn⟩]
   rw [e1]
   have hs:=HR.out.setBad 6
   have HS:=xhd hs
   have d2':=(op_cells hs.1.rd).2.2
   clear h e1 hs
   go_enter Tryz.func78,Tryz.ntmps78
   go_wp2
   go_ret
   exact⟨rfl,HS.out.1,HS.out.2⟩
  ·have e1:longS (c,0) n most=(false,(c,0)):=by unfold longS;rw [if_neg (fun h=>hn h.2)];simp
   rw [e1]
   clear h e1
   go_enter Tryz.func78,Tryz.ntmps78
   go_wp2
   go_ret
   exact⟨rfl,HR.out,Turned.refl _ _⟩
 ·have e1:longS (c,e) n most=(true,(c,e)):=by unfold longS;rw [if_neg (fun h=>he h.1)];simp [he]
  rw [e1]
  have ee:(e == 0)=false:=by simpa using he
  have en:(e != 0)=true:=by simpa using he
  clear h e1
  go_enter Tryz.func78,Tryz.ntmps78
  go_wp2
  go_ret
  exact⟨rfl,HR.out,Turned.refl _ _⟩
theorem rsp_then {b:Nat} {ao:Option Addr} {bw off cap:Nat} {L:List Wd} {s:Rd} {w w1 w2:World} (h:Turned [b] w w1) (h2:RsP b ao bw off cap L s w1 w2):RsP b ao bw off cap L s w w2:=
 ⟨h2.1,h.trans h2.2 (fun _ h=> .inl h)⟩
theorem rsfield_any {w:World} {b:Nat} {ao:Option Addr} {bw off cap:Nat} {L:List Wd} {s:Rd} (h:RsI w b ao bw off cap L s) (name:ByteArray) (most:Int):
  Calls Tryz.prog 75 #[.pointer (some ⟨b,0,none⟩), .string name, .int .i64 most] w fun r w'=>r= .returned (.int .i64 (fieldS L s name.data.toList most).1)∧RsP b ao bw off cap L (fieldS L s name.data.toList most).2 w w':=by
 have HN:=xhd (rsneed_any h 1 name)
 have hm:=h.len
 unfold fieldS
 obtain⟨⟨c,e⟩,hs⟩:∃s1,needS L s 1 name.data.toList=s1:=⟨_,rfl⟩
 rw [hs] at HN ⊢
 clear h hs
 by_cases he:e=0
 ·subst he
  by_cases hlt:c < L.length
  ·obtain⟨x,hx⟩:∃x,L[c]?=some x:=⟨L[c],List.getElem?_eq_getElem hlt⟩
   have hx2:L[c]=x:=by rw [List.getElem?_eq_getElem hlt] at hx;exact Option.some.inj hx
   obtain⟨k1,t1,m,p⟩:=x
   obtain⟨n,hn⟩:∃n,L.length=n:=⟨_,rfl⟩
   have HLN:=xhd hn
   have HXX:=xhd hx2
   have c0:(0:Int)≤c:=by omega
   have c1:(c:Int) < n:=by omega
   have cn:c < n:=by omega
   have cw:IntKind.i64.wrap ((c:Int)+1)=((c+1:Nat):Int):=by rw [IntKind.wrap_i64];omega
   by_cases hk:k1=2
   ·subst hk
    by_cases h1:m < 1
    ·have e1:numS L (c,0) most=(0,(c,1)):=by unfold numS;rw [if_neg (by simp)];simp only [hx];rw [if_pos trivial,if_pos (.inl h1)]
     rw [e1]
     clear e1 hx hx2 hn hm
     go_enter Tryz.func75,Tryz.ntmps75
     go_wp2_with fail
     with_reducible refine HN.out.mono ?_
     rintro r w1 ⟨rfl,hr1,ht1⟩
     have HR1:=xhd hr1
     have HT1:=xhd ht1
     obtain⟨d0,d1,d2⟩:=op_cells hr1.rd
     have f2:=frozen_of_row _ _ 2 _ _ hr1.rd
     obtain⟨rfl,hbw⟩:=hr1.ws.at_ (by omega)
     obtain⟨x0, -,x2, -⟩:=hr1.ws.cells c hlt
     rw [HXX.out] at x0 x2
     rw [HLN.out] at d0
     simp only at d0 d1 d2 x0 x2
     clear hr1 ht1
     go_wp2_with fail
     go_quiet (fail)
     go_wp2_with fail
     go_quiet (fail)
     go_wp2
     go_ret
     exact⟨rfl,rsp_then (HT1.out.drewN _) ((HR1.out.drewN _).setBad 1)⟩
    ·by_cases h2:most < m
     ·have e1:numS L (c,0) most=(0,(c,1)):=by unfold numS;rw [if_neg (by simp)];simp only [hx];rw [if_pos trivial,if_pos (.inr h2)]
      rw [e1]
      clear e1 hx hx2 hn hm
      go_enter Tryz.func75,Tryz.ntmps75
      go_wp2_with fail
      with_reducible refine HN.out.mono ?_
      rintro r w1 ⟨rfl,hr1,ht1⟩
      have HR1:=xhd hr1
      have HT1:=xhd ht1
      obtain⟨d0,d1,d2⟩:=op_cells hr1.rd
      have f2:=frozen_of_row _ _ 2 _ _ hr1.rd
      obtain⟨rfl,hbw⟩:=hr1.ws.at_ (by omega)
      obtain⟨x0, -,x2, -⟩:=hr1.ws.cells c hlt
      rw [HXX.out] at x0 x2
      rw [HLN.out] at d0
      simp only at d0 d1 d2 x0 x2
      clear hr1 ht1
      go_wp2_with fail
      go_quiet (fail)
      go_wp2_with fail
      go_quiet (fail)
      go_wp2
      go_ret
      exact⟨rfl,rsp_then (HT1.out.drewN _) ((HR1.out.drewN _).setBad 1)⟩
     ·have e1:numS L (c,0) most=(m,(c+1,0)):=by unfold numS;rw [if_neg (by simp)];simp only [hx];rw [if_pos trivial,if_neg (by omega)]
      rw [e1]
      clear e1 hx hx2 hn hm
      go_enter Tryz.func75,Tryz.ntmps75
      go_wp2_with fail
      with_reducible refine HN.out.mono ?_
      rintro r w1 ⟨rfl,hr1,ht1⟩
      have HR1:=xhd hr1
      have HT1:=xhd ht1
      obtain⟨d0,d1,d2⟩:=op_cells hr1.rd
      have f1:=frozen_of_row _ _ 1 _ _ hr1.rd
      obtain⟨rfl,hbw⟩:=hr1.ws.at_ (by omega)
      obtain⟨x0, -,x2, -⟩:=hr1.ws.cells c hlt
      rw [HXX.out] at x0 x2
      rw [HLN.out] at d0
      simp only at d0 d1 d2 x0 x2
      clear hr1 ht1
      go_wp2_with fail
      go_quiet (fail)
      go_wp2_with fail
      go_quiet (fail)
      go_wp2
      go_ret
      exact⟨rfl,rsp_then (HT1.out.drewN _) ((HR1.out.drewN _).setAt (c':=c+1) (by omega))⟩
   ·have e1:numS L (c,0) most=(0,(c,5)):=by unfold numS;rw [if_neg (by simp)];simp only [hx];rw [if_neg hk]
    rw [e1]
    have kk:(k1 != 2)=true:=by simpa using hk
    clear e1 hx hx2 hn hm
    go_enter Tryz.func75,Tryz.ntmps75
    go_wp2_with fail
    with_reducible refine HN.out.mono ?_
    rintro r w1 ⟨rfl,hr1,ht1⟩
    have HR1:=xhd hr1
    have HT1:=xhd ht1
    obtain⟨d0,d1,d2⟩:=op_cells hr1.rd
    have f2:=frozen_of_row _ _ 2 _ _ hr1.rd
    obtain⟨rfl,hbw⟩:=hr1.ws.at_ (by omega)
    obtain⟨x0, -,x2, -⟩:=hr1.ws.cells c hlt
    rw [HXX.out] at x0 x2
    rw [HLN.out] at d0
    simp only at d0 d1 d2 x0 x2
    clear hr1 ht1
    go_wp2_with fail
    go_quiet (fail)
    go_wp2
    go_ret
    exact⟨rfl,rsp_then (HT1.out.drewN _) ((HR1.out.drewN _).setBad 5)⟩
  ·have e1:numS L (c,0) most=(0,(c,5)):=by unfold numS;rw [if_neg (by simp)];simp only [List.getElem?_eq_none (show L.length≤c by omega)]
   rw [e1]
   obtain⟨n,hn⟩:∃n,L.length=n:=⟨_,rfl⟩
   have HLN:=xhd hn
   have c1:¬(c:Int) < n:=by omega
   have c2:(n:Int)≤c:=by omega
   clear e1 hn hm
   go_enter Tryz.func75,Tryz.ntmps75
   go_wp2_with fail
   with_reducible refine HN.out.mono ?_
   rintro r w1 ⟨rfl,hr1,ht1⟩
   have HR1:=xhd hr1
   have HT1:=xhd ht1
   obtain⟨d0,d1,d2⟩:=op_cells hr1.rd
   have f2:=frozen_of_row _ _ 2 _ _ hr1.rd
   rw [HLN.out] at d0
   simp only at d0 d1 d2
   clear hr1 ht1
   go_wp2_with fail
   go_quiet (fail)
   go_wp2
   go_ret
   exact⟨rfl,rsp_then (HT1.out.drewN _) ((HR1.out.drewN _).setBad 5)⟩
 ·have e1:numS L (c,e) most=(0,(c,e)):=by unfold numS;rw [if_pos he]
  rw [e1]
  have en:(e != 0)=true:=by simpa using he
  clear e1 hm
  go_enter Tryz.func75,Tryz.ntmps75
  go_wp2_with fail
  with_reducible refine HN.out.mono ?_
  rintro r w1 ⟨rfl,hr1,ht1⟩
  have HR1:=xhd hr1
  have HT1:=xhd ht1
  obtain⟨d0,d1,d2⟩:=op_cells hr1.rd
  simp only at d0 d1 d2
  clear hr1 ht1
  go_wp2
  go_ret
  exact⟨rfl,HR1.out,HT1.out⟩
theorem rtakes_any (k a c:Int) (w:World):Calls Tryz.prog 106 #[.agg #[.int .i64 k, .int .i64 a, .int .i64 c]] w fun e w'=>e= .returned (.bool (takesR (k,a,c)))∧Below w.heap.size w w':=by
 by_cases h2:2≤k
 ·by_cases h5:k≤5
  ·have e:takesR (k,a,c)=true:=by simp [takesR,h2,h5]
   rw [e]
   go_enter Tryz.func106,Tryz.ntmps106
   go_wp2
   go_ret
   exact⟨by simp,(Below.refl _ w).alloc (Nat.le_refl _) _⟩
  ·have e:takesR (k,a,c)=false:=by simp [takesR,h5]
   rw [e]
   go_enter Tryz.func106,Tryz.ntmps106
   go_wp2
   go_ret
   exact⟨by simp,(Below.refl _ w).alloc (Nat.le_refl _) _⟩
 ·have e:takesR (k,a,c)=false:=by simp [takesR,h2]
  rw [e]
  go_enter Tryz.func106,Tryz.ntmps106
  go_wp2
  go_ret
  exact⟨by simp,(Below.refl _ w).alloc (Nat.le_refl _) _⟩
theorem four_cells {w:World} {B:Nat} {a b c d:Value} {t:TypeId} (h:w.heap[B]?=some (.cells #[a,b,c,d] t (0,0))):
  w.cell? ⟨B,0,none⟩=some a∧w.cell? ⟨B,1,none⟩=some b∧w.cell? ⟨B,2,none⟩=some c∧w.cell? ⟨B,3,none⟩=some d∧∀i,w.frozen? ⟨B,i,none⟩=false:=
 ⟨by simp [World.cell?,h],by simp [World.cell?,h],by simp [World.cell?,h],by simp [World.cell?,h],fun i=>frozen_of_row w B i _ t h⟩
structure SecI (w wr:World) (pv:Array Value) (i j:Nat) (lk t:Int):Prop where
 box:wr.heap[w.heap.size]?=some (.cells pv 49 (0,0))
 res:wr.heap[w.heap.size+1]?=some (.cells #[.int .i64 0, .int .i64 0, .int .i64 0, .int .i64 0] 167 (0,0))
 sec:wr.heap[w.heap.size+2]?=some (.cells #[.int .i64 i, .int .i64 (j:Nat), .int .i64 lk, .int .i64 t] 167 (0,0))
 bel:Below w.heap.size w wr
theorem SecI.below {w wr wr':World} {pv:Array Value} {i j:Nat} {lk t:Int} (h:SecI w wr pv i j lk t) (hb:Below wr.heap.size wr wr'):SecI w wr' pv i j lk t:=
 ⟨(hb.block _ (lt_of_block h.box)).trans h.box,(hb.block _ (lt_of_block h.res)).trans h.res,(hb.block _ (lt_of_block h.sec)).trans h.sec,h.bel.trans (hb.mono h.bel.size)⟩
theorem SecI.next {w wr:World} {pv:Array Value} {i j:Nat} {lk t:Int} (h:SecI w wr pv i j lk t):SecI w (wr.setCell ⟨w.heap.size+2,1,none⟩ (.int .i64 ((j+1:Nat):Int))) pv i (j+1) lk t:=by
 refine⟨(Below.heap_setCell _ _ _ _ (by show w.heap.size≠w.heap.size+2;omega)).trans h.box,(Below.heap_setCell _ _ _ _ (by show w.heap.size+1≠w.heap.size+2;omega)).trans h.res,?_,h.bel.setCell (by show w.heap.size≤w.heap.size+2;omega) _⟩
 rw [heap_setCell_same _ _ _ _ _ _ h.sec]
 rfl
theorem SecI.more {w wr:World} {pv:Array Value} {i j:Nat} {lk t:Int} (h:SecI w wr pv i j lk t) (t':Int):SecI w (wr.setCell ⟨w.heap.size+2,3,none⟩ (.int .i64 t')) pv i j lk t':=by
 refine⟨(Below.heap_setCell _ _ _ _ (by show w.heap.size≠w.heap.size+2;omega)).trans h.box,(Below.heap_setCell _ _ _ _ (by show w.heap.size+1≠w.heap.size+2;omega)).trans h.res,?_,h.bel.setCell (by show w.heap.size≤w.heap.size+2;omega) _⟩
 rw [heap_setCell_same _ _ _ _ _ _ h.sec]
 rfl
theorem SecI.start (w:World) (pv:Array Value) (i:Nat) (lk:Int):
  SecI w (((w.alloc (.cells pv 49)).alloc (.cells #[.int .i64 0, .int .i64 0, .int .i64 0, .int .i64 0] 167)).alloc (.cells #[.int .i64 i, .int .i64 ((i+1:Nat):Int), .int .i64 lk, .int .i64 0] 167)) pv i (i+1) lk 0:=by
 have h0:=heap_alloc_new w (.cells pv 49)
 have h1:=heap_alloc_new (w.alloc (.cells pv 49)) (.cells #[.int .i64 0, .int .i64 0, .int .i64 0, .int .i64 0] 167)
 have h2:=heap_alloc_new ((w.alloc (.cells pv 49)).alloc (.cells #[.int .i64 0, .int .i64 0, .int .i64 0, .int .i64 0] 167)) (.cells #[.int .i64 i, .int .i64 ((i+1:Nat):Int), .int .i64 lk, .int .i64 0] 167)
 simp only [World.size_alloc] at h1 h2
 exact⟨(Below.heap_alloc _ _ _ (by simp;omega)).trans ((Below.heap_alloc _ _ _ (by simp)).trans h0),(Below.heap_alloc _ _ _ (by simp)).trans h1,h2,(((Below.refl _ w).alloc (Nat.le_refl _) _).alloc (by simp) _).alloc (by simp;omega) _⟩
theorem SecI.fin {w wr:World} {pv:Array Value} {i j:Nat} {lk t:Int} (h:SecI w wr pv i j lk t):
  ((((wr.setCell ⟨w.heap.size+1,0,none⟩ (.int .i64 i)).setCell ⟨w.heap.size+1,1,none⟩ (.int .i64 (j:Nat))).setCell ⟨w.heap.size+1,2,none⟩ (.int .i64 lk)).setCell ⟨w.heap.size+1,3,none⟩ (.int .i64 t)).heap[w.heap.size+1]?=some (.cells #[.int .i64 i, .int .i64 (j:Nat), .int .i64 lk, .int .i64 t] 167 (0,0))∧
  Below w.heap.size w ((((wr.setCell ⟨w.heap.size+1,0,none⟩ (.int .i64 i)).setCell ⟨w.heap.size+1,1,none⟩ (.int .i64 (j:Nat))).setCell ⟨w.heap.size+1,2,none⟩ (.int .i64 lk)).setCell ⟨w.heap.size+1,3,none⟩ (.int .i64 t)):=by
 have hn:w.heap.size≤w.heap.size+1:=Nat.le_succ _
 refine⟨?_,(((h.bel.setCell (p:=⟨w.heap.size+1,0,none⟩) hn _).setCell (p:=⟨w.heap.size+1,1,none⟩) hn _).setCell (p:=⟨w.heap.size+1,2,none⟩) hn _).setCell (p:=⟨w.heap.size+1,3,none⟩) hn _⟩
 rw [heap_setCell_same _ _ _ _ _ _ (heap_setCell_same _ _ _ _ _ _ (heap_setCell_same _ _ _ _ _ _ (heap_setCell_same _ _ _ _ _ _ h.res)))]
 rfl
theorem SecI.fin2 {w wr:World} {pv:Array Value} {i j:Nat} {lk t:Int} (h:SecI w wr pv i j lk t) (X:Obj):
  (((((wr.setCell ⟨w.heap.size+1,0,none⟩ (.int .i64 i)).setCell ⟨w.heap.size+1,1,none⟩ (.int .i64 (j:Nat))).setCell ⟨w.heap.size+1,2,none⟩ (.int .i64 lk)).setCell ⟨w.heap.size+1,3,none⟩ (.int .i64 t)).alloc X).heap[w.heap.size+1]?=some (.cells #[.int .i64 i, .int .i64 (j:Nat), .int .i64 lk, .int .i64 t] 167 (0,0))∧
  Below w.heap.size w (((((wr.setCell ⟨w.heap.size+1,0,none⟩ (.int .i64 i)).setCell ⟨w.heap.size+1,1,none⟩ (.int .i64 (j:Nat))).setCell ⟨w.heap.size+1,2,none⟩ (.int .i64 lk)).setCell ⟨w.heap.size+1,3,none⟩ (.int .i64 t)).alloc X):=
 ⟨(Below.heap_alloc _ _ _ (lt_of_block h.fin.1)).trans h.fin.1,h.fin.2.alloc h.fin.2.size _⟩
theorem results_at {fn:Func} {p:Tmp} {ty:TypeId} (h:fn.results= #[.cell p ty]) (tmps:Array Value) (P:Program) (w:World):
  (results fn tmps).run P w=((asAddr (tmps.getD p undef)).run P w).andThen fun a w₁=>(loadVar ty a).run P w₁:=by
 simp only [results,h]
 simp [Sem.run_bind,Result.andThen]
theorem sec_res {fn:Func} {p:Tmp} (hf:fn.results= #[.cell p 167]) {tmps:Array Value} {w:World} {B:Nat} {a b c d:Value} (hp:tmps.getD p undef= .pointer (some ⟨B,0,none⟩)) (h:w.heap[B]?=some (.cells #[a,b,c,d] 167 (0,0))):
  (results fn tmps).run Tryz.prog w= .ok (.agg #[a,b,c,d]) w:=by
 obtain⟨c0,c1,c2,c3,_⟩:=four_cells h
 rw [results_at hf,hp]
 simp [loadVar,go_sem,c0,c1,c2,c3]
theorem rsec_any (f:Bool) (ao:Option Addr) (b off cap:Nat) (L:List Opn) (i:Nat) (w:World) (h:OArg w ao b off L) (hi:i < L.length) (hm:L.length≤12) (ho:∀o ∈ L,opMay o=true):
  Calls Tryz.prog 107 #[prgV f ao L.length cap, .int .i64 i] w fun e w'=>e= .returned (.agg #[.int .i64 i, .int .i64 (secR (L[i]).2.1 (L.drop (i+1)) (i+1) 0).1, .int .i64 (L[i]).2.1, .int .i64 (secR (L[i]).2.1 (L.drop (i+1)) (i+1) 0).2])∧Below w.heap.size w w':=by
 have HA:=xhd h
 have HO:=xhd ho
 obtain⟨rfl,hb⟩:=h.at_ (by omega)
 obtain⟨-,y1, -⟩:=h.cells i hi
 obtain⟨lk,hlk⟩:∃lk,(L[i]).2.1=lk:=⟨_,rfl⟩
 rw [hlk] at y1 ⊢
 obtain⟨R,hR⟩:∃R,secR lk (L.drop (i+1)) (i+1) 0=R:=⟨_,rfl⟩
 have HR:=xhd hR
 rw [hR]
 have HS:=SecI.start w #[.bool f, .slice (some ⟨b,off,none⟩) L.length cap] i lk
 obtain⟨n,hn⟩:∃n,L.length=n:=⟨_,rfl⟩
 have HN:=xhd hn
 rw [hn] at hi hm HS ⊢
 have HS0:=xhd HS
 have i0:(0:Int)≤i:=by omega
 have i1:(i:Int) < n:=by omega
 have i2:IntKind.i64.wrap ((i:Int)+1)=((i+1:Nat):Int):=by rw [IntKind.wrap_i64];omega
 clear h ho hlk hR hn HS
 go_enter Tryz.func107,Tryz.ntmps107
 go_wp2_with fail
 obtain⟨W0,hW0⟩:∃W0,((w.alloc (.cells #[.bool f, .slice (some ⟨b,off,none⟩) n cap] 49)).alloc (.cells #[.int .i64 0, .int .i64 0, .int .i64 0, .int .i64 0] 167)).alloc (.cells #[.int .i64 i, .int .i64 ((i:Int)+1), .int .i64 lk, .int .i64 0] 167)=W0:=⟨_,rfl⟩
 have HS1:=HS0.out
 rw [show ((i+1:Nat):Int)=(i:Int)+1 by omega,hW0] at HS1
 rw [hW0]
 have HS2:=xhd HS1
 clear HS1 HS0 hW0 y1
 go_loopg [] (n - (i+1)) (fun g wr=>∃(j:Nat) (t:Int),g=n - j∧i+1≤j∧j≤n∧0≤t∧t≤16*j∧Hid (SecI w wr #[.bool f, .slice (some ⟨b,off,none⟩) n cap] i j lk t)∧Hid (R=secR lk (L.drop j) j t))
 case atStart=>exact⟨i+1,0,rfl,Nat.le_refl _,by omega,by omega,by omega,HS2,HR.out.symm⟩
 case round=>
  obtain⟨j,t,rfl,hj1,hj2,ht1,ht2,HI,HJ⟩:=hrel
  obtain⟨c0,c1⟩:=two_cells HI.out.box
  obtain⟨s0,s1,s2,s3,sf⟩:=four_cells HI.out.sec
  obtain⟨r0,r1,r2,r3,rf⟩:=four_cells HI.out.res
  have rf0:=rf 0
  have rf1:=rf 1
  have rf2:=rf 2
  have rf3:=rf 3
  by_cases hlt:j < n
  ·have hjL:j < L.length:=by rw [HN.out];exact hlt
   have hA:=HA.out.below HI.out.bel
   obtain⟨x0,x1,x2⟩:=hA.cells j hjL
   have hbl:=(hA.at_ (by omega)).2
   have hop:=HO.out L[j] (List.getElem_mem _)
   obtain⟨⟨k,a,c⟩,hx⟩:∃x,L[j]=x:=⟨_,rfl⟩
   have hd:L.drop j=(k,a,c)::L.drop (j+1):=by rw [List.drop_eq_getElem_cons hjL,hx]
   have HD:=xhd hd
   rw [hx] at x0 x1 x2 hop
   simp only at x0 x1 x2
   have hbc:k=1→1≤a∧a≤16:=by
    intro h1
    simp only [opMay,Bool.and_eq_true] at hop
    have ha:=hop.2.1
    unfold aMay limR at ha
    rw [if_pos h1] at ha
    simpa using ha
   have HX:=xhd (heap_alloc_new wr (.cells #[.int .i64 k, .int .i64 a, .int .i64 c] 142))
   have HI2:=xhd (HI.out.below ((Below.refl _ wr).alloc (Nat.le_refl _) (.cells #[.int .i64 k, .int .i64 a, .int .i64 c] 142)))
   have lb:=lt_of_block HI.out.box
   have ls:=lt_of_block HI.out.sec
   have lr:=lt_of_block HI.out.res
   have sf1:=sf 1
   have sf3:=sf 3
   have j0:(0:Int)≤j:=by omega
   have j1:(j:Int) < n:=by omega
   have j2:IntKind.i64.wrap ((j:Int)+1)=(j:Int)+1:=by rw [IntKind.wrap_i64];omega
   clear hx hd hop hA sf rf
   by_cases h11:k=11
   ·subst h11
    have HRR:Hid (R=(j,t)):=xhd (by rw [HJ.out,HD.out];unfold secR;rw [if_pos (by simp [endCr])])
    go_wp2
    have hf:=HI.out.fin2 (.cells #[.int .i64 11, .int .i64 a, .int .i64 c] 142)
    refine bodyPost_ret (sec_res rfl rfl hf.1) rfl ?_
    rw [HRR.out]
    exact⟨rfl,hf.2⟩
   ·have q11:(k == 11)=false:=by simpa using h11
    by_cases h6:k=6
    ·subst h6
     by_cases hal:a=lk
     ·subst hal
      have HRR:Hid (R=(j,t)):=xhd (by rw [HJ.out,HD.out];unfold secR;rw [if_pos (by simp [endCr])])
      go_wp2
      have hf:=HI.out.fin2 (.cells #[.int .i64 6, .int .i64 a, .int .i64 c] 142)
      refine bodyPost_ret (sec_res rfl rfl hf.1) rfl ?_
      rw [HRR.out]
      exact⟨rfl,hf.2⟩
     ·have qal:(a == lk)=false:=by simpa using hal
      have HJ2:Hid (R=secR lk (L.drop (j+1)) (j+1) t):=xhd (by rw [HJ.out,HD.out];conv=> { lhs;unfold secR };rw [if_neg (by simp [endCr,hal]),if_neg (by simp)])
      go_wp2
      go_roundg (n - (j+1))
      case measure=>omega
      case rel=>(first|with_reducible exact⟨j+1,t,rfl,by omega,by omega,ht1,by omega,xhd (HI.out.next.below ((Below.refl _ _).alloc (Nat.le_refl _) (.cells #[.int .i64 6, .int .i64 a, .int .i64 c] 142))),HJ2⟩ |trace_state)
    ·have q6:(k == 6)=false:=by simpa using h6
     by_cases h1:k=1
     ·subst h1
      have hb1:=hbc rfl
      have HJ2:Hid (R=secR lk (L.drop (j+1)) (j+1) (t+a)):=xhd (by rw [HJ.out,HD.out];conv=> { lhs;unfold secR };rw [if_neg (by simp [endCr]),if_pos rfl])
      have t2:IntKind.i64.wrap (t+a)=t+a:=by rw [IntKind.wrap_i64];omega
      go_wp2
      go_roundg (n - (j+1))
      case measure=>omega
      case rel=>(first|with_reducible exact⟨j+1,t+a,rfl,by omega,by omega,by omega,by omega,xhd ((HI.out.more (t+a)).next.below ((Below.refl _ _).alloc (Nat.le_refl _) (.cells #[.int .i64 1, .int .i64 a, .int .i64 c] 142))),HJ2⟩ |trace_state)
     ·have q1:(k == 1)=false:=by simpa using h1
      have HJ2:Hid (R=secR lk (L.drop (j+1)) (j+1) t):=xhd (by rw [HJ.out,HD.out];conv=> { lhs;unfold secR };rw [if_neg (by simp [endCr,h11,h6]),if_neg h1])
      go_wp2
      go_roundg (n - (j+1))
      case measure=>omega
      case rel=>(first|with_reducible exact⟨j+1,t,rfl,by omega,by omega,ht1,by omega,xhd (HI.out.next.below ((Below.refl _ _).alloc (Nat.le_refl _) (.cells #[.int .i64 k, .int .i64 a, .int .i64 c] 142))),HJ2⟩ |trace_state)
  ·obtain rfl:j=n:=by omega
   have HRR:Hid (R=(j,t)):=xhd (by rw [HJ.out,List.drop_of_length_le (by rw [HN.out];exact Nat.le_refl _)];rfl)
   go_wp2
   have hf:=HI.out.fin
   refine bodyPost_ret (sec_res rfl rfl hf.1) rfl ?_
   rw [HRR.out]
   exact⟨rfl,hf.2⟩
end Go.Proofs.YtbnhnnccioljhaaGreatDoor
