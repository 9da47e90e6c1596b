/-
  The law's own small; what is said of the program.
  A row of locks; what more is allowed, plainly.
  The document's reader of setups: a lock.
  The program reads one group, one lock.
  The document's Check, of any program.
  Setups as they are read: ints, programs, a setup.
  The program's takes, ends, rests, there.
  The program's section.
-/
import Derived.Test.YtbnhnnccioljhaaGreatDoorZAV
import Derived.Test.YtbnhnnccioljhaaGreatDoorZAE
import Derived.Test.YtbnhnnccioljhaaGreatDoorZAG
import Derived.Test.YtbnhnnccioljhaaGreatDoorZAF
import Derived.Test.YtbnhnnccioljhaaGreatDoorZAA
import Derived.Deep.RegionHeld3
import Derived.Test.YtbnhnnccioljhaaGreatDoorZAl
set_option maxRecDepth 100000
set_option maxHeartbeats 25600000
namespace Go.Proofs.YtbnhnnccioljhaaGreatDoor
open Go.RowKit
def lkC (x:Lk):List Value:=[.bool x.1, .int .i64 x.2.1, .int .i64 x.2.2.1, .int .i64 x.2.2.2.1, .int .i64 x.2.2.2.2]
theorem lkC_len (x:Lk):(lkC x).length=5:=rfl
theorem lkC_one (x:Lk):∀u ∈ lkC x,u.oneCell'=true:=by
 intro u hu
 simp only [lkC,List.mem_cons,List.not_mem_nil,or_false] at hu
 rcases hu with rfl|rfl|rfl|rfl|rfl<;>rfl
theorem lock_info:(Tryz.prog.info? 100).map (fun i=>(i.zero,i.size,i.bytes))=some (some (.agg #[.bool false, .int .i64 0, .int .i64 0, .int .i64 0, .int .i64 0]),5,40):=by kernel_rfl
abbrev LkRow (base:Nat) (w:World) (v:Value) (L:List Lk):Prop:=w.ownsRow base 100 5 v L.length (cellsOf lkC L)
theorem LArg.of_row {base:Nat} {w:World} {v:Value} {L:List Lk} (h:LkRow base w v L):∃ao b cap,v= .slice ao L.length cap∧LArg w ao b 0 L:=by
 by_cases h0:0 < L.length
 ·obtain⟨g,cap,rfl,_,_⟩:=ownsRow_pos h h0
  refine⟨_,g,cap,rfl,fun _=>⟨rfl,(h.lt g (by simp [Value.ownBlock])).2⟩,fun i hi=>?_⟩
  have hk:∀q,q < 5→w.cell? ⟨g,0+i*5+q,none⟩=(lkC L[i])[q]?:=fun q hq=>by
   rw [Nat.zero_add,h.cellAt _ (by omega)]
   exact cellsOf_get lkC_len L i q hi hq
  exact⟨hk 0 (by omega),hk 1 (by omega),hk 2 (by omega),hk 3 (by omega),hk 4 (by omega)⟩
 ·obtain⟨ao,cap,rfl,_⟩:=ownsRow_shape h
  exact⟨ao,0,cap,rfl,fun h=>absurd h h0,fun i hi=>absurd (Nat.lt_of_le_of_lt (Nat.zero_le _) hi) h0⟩
theorem five_new (W:World) (a b c d e:Value) (t:TypeId):∀(j:Nat) (u:Value),[a,b,c,d,e][j]?=some u→(W.alloc (.cells #[a,b,c,d,e] t)).cell? ((⟨W.heap.size,0,none⟩:Addr).add j)=some u:=by
 intro j u hj
 rw [Addr.add_lit]
 match j,hj with
 |0,hj|1,hj|2,hj|3,hj|4,hj=>
  simp at hj
  subst hj
  simp
theorem five_cells {w:World} {B:Nat} {a b c d e:Value} {t:TypeId} (h:w.heap[B]?=some (.cells #[a,b,c,d,e] t (0,0))):
  w.cell? ⟨B,0,none⟩=some a∧w.cell? ⟨B,1,none⟩=some b∧w.cell? ⟨B,2,none⟩=some c∧w.cell? ⟨B,3,none⟩=some d∧w.cell? ⟨B,4,none⟩=some e∧∀i,w.frozen? ⟨B,i,none⟩=false:=
 ⟨by simp [World.cell?,h],by simp [World.cell?,h],by simp [World.cell?,h],by simp [World.cell?,h],by simp [World.cell?,h],fun i=>frozen_of_row w B i _ t h⟩
theorem RsI.store {w:World} {b:Nat} {ao:Option Addr} {bw off cap:Nat} {L:List Wd} {s:Rd} (h:RsI w b ao bw off cap L s) {k:Nat} (o:Nat) (v:Value) (h1:b≠k) (h2:0 < L.length→bw≠k):RsI (w.setCell ⟨k,o,none⟩ v) b ao bw off cap L s:=
 ⟨(Below.heap_setCell _ _ _ _ h1).trans h.rd,h.ws.kept (fun h0=>Below.heap_setCell _ _ _ _ (h2 h0)),h.ne,h.le,h.len⟩
abbrev lkA (x:Lk):Array Value:= #[.bool x.1, .int .i64 x.2.1, .int .i64 x.2.2.1, .int .i64 x.2.2.2.1, .int .i64 x.2.2.2.2]
structure LkX (w W:World) (R:Nat) (x:Lk):Prop where
 res:W.heap[w.heap.size]?=some (.cells #[.bool false, .int .i64 0, .int .i64 0, .int .i64 0, .int .i64 0] 100 (0,0))
 box:W.heap[w.heap.size+1]?=some (.cells (lkA x) 100 (0,0))
 t:Turned [R] w W
theorem LkX.turned {w W W':World} {R:Nat} {x:Lk} (h:LkX w W R x) (hR:R < w.heap.size) (t:Turned [R] W W'):LkX w W' R x:=
 ⟨t.same h.res (by simp;omega),t.same h.box (by simp;omega),h.t.trans t (fun _ h=> .inl h)⟩
theorem LkX.set {w W:World} {R:Nat} {x:Lk} (h:LkX w W R x) {k:Nat} {v:Value} {x':Lk} (he:(lkA x).setIfInBounds k v=lkA x'):LkX w (W.setCell ⟨w.heap.size+1,k,none⟩ v) R x':=by
 refine⟨(Below.heap_setCell _ _ _ _ (by show w.heap.size≠w.heap.size+1;omega)).trans h.res,?_,h.t.setCell (.inr (by show w.heap.size≤w.heap.size+1;omega)) _⟩
 rw [heap_setCell_same _ _ _ _ _ _ h.box]
 simp only [he]
theorem LkX.start (w:World) (R:Nat) (sh:Bool):LkX w ((w.alloc (.cells #[.bool false, .int .i64 0, .int .i64 0, .int .i64 0, .int .i64 0] 100)).alloc (.cells #[.bool sh, .int .i64 0, .int .i64 0, .int .i64 0, .int .i64 0] 100)) R (sh,0,0,0,0):=by
 have h1:=heap_alloc_new w (.cells #[.bool false, .int .i64 0, .int .i64 0, .int .i64 0, .int .i64 0] 100)
 have h2:=heap_alloc_new (w.alloc (.cells #[.bool false, .int .i64 0, .int .i64 0, .int .i64 0, .int .i64 0] 100)) (.cells #[.bool sh, .int .i64 0, .int .i64 0, .int .i64 0, .int .i64 0] 100)
 rw [World.size_alloc] at h2
 exact⟨(Below.heap_alloc _ _ _ (by simp)).trans h1,h2,((Turned.refl [R] w).alloc _).alloc _⟩
theorem LkX.fin {w W:World} {R:Nat} {x:Lk} (h:LkX w W R x):
  (((((W.setCell ⟨w.heap.size,0,none⟩ (.bool x.1)).setCell ⟨w.heap.size,1,none⟩ (.int .i64 x.2.1)).setCell ⟨w.heap.size,2,none⟩ (.int .i64 x.2.2.1)).setCell ⟨w.heap.size,3,none⟩ (.int .i64 x.2.2.2.1)).setCell ⟨w.heap.size,4,none⟩ (.int .i64 x.2.2.2.2)).heap[w.heap.size]?=some (.cells (lkA x) 100 (0,0))∧
  Turned [R] w (((((W.setCell ⟨w.heap.size,0,none⟩ (.bool x.1)).setCell ⟨w.heap.size,1,none⟩ (.int .i64 x.2.1)).setCell ⟨w.heap.size,2,none⟩ (.int .i64 x.2.2.1)).setCell ⟨w.heap.size,3,none⟩ (.int .i64 x.2.2.2.1)).setCell ⟨w.heap.size,4,none⟩ (.int .i64 x.2.2.2.2)):=by
 have hn:w.heap.size≤w.heap.size:=Nat.le_refl _
 refine⟨?_,((((h.t.setCell (.inr hn) _).setCell (.inr hn) _).setCell (.inr hn) _).setCell (.inr hn) _).setCell (.inr hn) _⟩
 rw [heap_setCell_same _ _ _ _ _ _ (heap_setCell_same _ _ _ _ _ _ (heap_setCell_same _ _ _ _ _ _ (heap_setCell_same _ _ _ _ _ _ (heap_setCell_same _ _ _ _ _ _ h.res))))]
 rfl
theorem lk_res {fn:Func} {p:Tmp} (hf:fn.results= #[.cell p 100]) {tmps:Array Value} {w:World} {B:Nat} {a b c d e:Value} (hp:tmps.getD p undef= .pointer (some ⟨B,0,none⟩)) (h:w.heap[B]?=some (.cells #[a,b,c,d,e] 100 (0,0))):
  (results fn tmps).run Tryz.prog w= .ok (.agg #[a,b,c,d,e]) w:=by
 obtain⟨c0,c1,c2,c3,c4,_⟩:=five_cells h
 rw [results_at hf,hp]
 simp [loadVar,go_sem,c0,c1,c2,c3,c4]
theorem rslock_any {w:World} {R:Nat} {ao:Option Addr} {bw off cap:Nat} {L:List Wd} {s:Rd} (h:RsI w R ao bw off cap L s) (sh:Bool):
  Calls Tryz.prog 79 #[.pointer (some ⟨R,0,none⟩), .bool sh] w fun r w'=>r= .returned (.agg (lkA (lockS L s sh).1))∧RsP R ao bw off cap L (lockS L s sh).2 w w':=by
 have hR:=lt_of_block h.rd
 have hbw:0 < L.length→bw < w.heap.size:=fun h0=>(h.ws.at_ h0).2
 have HF:=xhd (fun V (s:Rd) (hV:RsI V R ao bw off cap L s) (name:ByteArray) (most:Int)=>rsfield_any hV name most)
 have HNE:=xhd (fun V (s:Rd) (hV:RsI V R ao bw off cap L s)=>rsneed_any hV 3 ⟨#[59]⟩)
 have HS0:=xhd (LkX.start w R sh)
 have HR0:=xhd (h.below (((Below.refl _ w).alloc (Nat.le_refl _) (.cells #[.bool false, .int .i64 0, .int .i64 0, .int .i64 0, .int .i64 0] 100)).alloc (by simp) (.cells #[.bool sh, .int .i64 0, .int .i64 0, .int .i64 0, .int .i64 0] 100)))
 have HBW:=xhd hbw
 obtain⟨⟨a1,s1⟩,e1⟩:∃x,fieldS L s sliceB 16=x:=⟨_,rfl⟩
 obtain⟨⟨a2,s2⟩,e2⟩:∃x,fieldS L s1 critB 32=x:=⟨_,rfl⟩
 have E1:=xhd e1
 have E2:=xhd e2
 clear h hbw
 cases sh with
 |true=>
  obtain⟨⟨a3,s3⟩,e3⟩:∃x,fieldS L s2 readB 16=x:=⟨_,rfl⟩
  obtain⟨⟨a4,s4⟩,e4⟩:∃x,fieldS L s3 writeB 16=x:=⟨_,rfl⟩
  have hl:lockS L s true=((true,a1,a2,a3,a4),needS L s4 3 [59]):=by
   unfold lockS
   simp only [e1,e2,if_pos,e3,e4]
  rw [hl]
  have E3:=xhd e3
  have E4:=xhd e4
  clear e1 e2 e3 e4 hl
  go_enter Tryz.func79,Tryz.ntmps79
  go_wp2_with fail
  have h1:=HF.out _ _ HR0.out ⟨#[115,108,105,99,101]⟩ 16
  rw [show (⟨#[115,108,105,99,101]⟩:ByteArray).data.toList=sliceB from rfl,E1.out] at h1
  refine h1.mono ?_
  rintro r w1 ⟨rfl,hr1,ht1⟩
  have HX1:=xhd (HS0.out.turned hR ht1)
  have b1:=frozen_of_row _ _ 1 _ _ HX1.out.box
  obtain⟨c0,c1,c2,c3,c4, -⟩:=five_cells HX1.out.box
  have HQ1:=xhd (hr1.store (k:=w.heap.size+1) 1 (.int .i64 a1) (by omega) (fun h0=>by have:=HBW.out h0;omega))
  have HZ1:=xhd (HX1.out.set (k:=1) (v:= .int .i64 a1) (x':=(true,a1,0,0,0)) rfl)
  clear h1 hr1 ht1
  go_wp2_with fail
  have h1:=HF.out _ _ HQ1.out ⟨#[99,114,105,116]⟩ 32
  rw [show (⟨#[99,114,105,116]⟩:ByteArray).data.toList=critB from rfl,E2.out] at h1
  refine h1.mono ?_
  rintro r w2 ⟨rfl,hr1,ht1⟩
  have HX2:=xhd (HZ1.out.turned hR ht1)
  have b2:=frozen_of_row _ _ 2 _ _ HX2.out.box
  clear c0 c1 c2 c3 c4
  obtain⟨c0,c1,c2,c3,c4, -⟩:=five_cells HX2.out.box
  have HQ2:=xhd (hr1.store (k:=w.heap.size+1) 2 (.int .i64 a2) (by omega) (fun h0=>by have:=HBW.out h0;omega))
  have HZ2:=xhd (HX2.out.set (k:=2) (v:= .int .i64 a2) (x':=(true,a1,a2,0,0)) rfl)
  clear h1 hr1 ht1
  go_wp2_with fail
  have h1:=HF.out _ _ HQ2.out ⟨#[114,101,97,100]⟩ 16
  rw [show (⟨#[114,101,97,100]⟩:ByteArray).data.toList=readB from rfl,E3.out] at h1
  refine h1.mono ?_
  rintro r w3 ⟨rfl,hr1,ht1⟩
  have HX3:=xhd (HZ2.out.turned hR ht1)
  have b3:=frozen_of_row _ _ 3 _ _ HX3.out.box
  clear c0 c1 c2 c3 c4
  obtain⟨c0,c1,c2,c3,c4, -⟩:=five_cells HX3.out.box
  have HQ3:=xhd (hr1.store (k:=w.heap.size+1) 3 (.int .i64 a3) (by omega) (fun h0=>by have:=HBW.out h0;omega))
  have HZ3:=xhd (HX3.out.set (k:=3) (v:= .int .i64 a3) (x':=(true,a1,a2,a3,0)) rfl)
  clear h1 hr1 ht1
  go_wp2_with fail
  have h1:=HF.out _ _ HQ3.out ⟨#[119,114,105,116,101]⟩ 16
  rw [show (⟨#[119,114,105,116,101]⟩:ByteArray).data.toList=writeB from rfl,E4.out] at h1
  refine h1.mono ?_
  rintro r w4 ⟨rfl,hr1,ht1⟩
  have HX4:=xhd (HZ3.out.turned hR ht1)
  have b4:=frozen_of_row _ _ 4 _ _ HX4.out.box
  clear c0 c1 c2 c3 c4
  obtain⟨c0,c1,c2,c3,c4, -⟩:=five_cells HX4.out.box
  have HQ4:=xhd (hr1.store (k:=w.heap.size+1) 4 (.int .i64 a4) (by omega) (fun h0=>by have:=HBW.out h0;omega))
  have HZ4:=xhd (HX4.out.set (k:=4) (v:= .int .i64 a4) (x':=(true,a1,a2,a3,a4)) rfl)
  clear h1 hr1 ht1
  go_wp2_with fail
  have h1:=HNE.out _ _ HQ4.out
  refine h1.mono ?_
  rintro r w9 ⟨rfl,hr1,ht1⟩
  have HX9:=xhd (HZ4.out.turned hR ht1)
  have HR9:=xhd hr1
  clear c0 c1 c2 c3 c4
  obtain⟨c0,c1,c2,c3,c4, -⟩:=five_cells HX9.out.box
  obtain⟨d0,d1,d2,d3,d4,df⟩:=five_cells HX9.out.res
  have f0:=df 0
  have f1:=df 1
  have f2:=df 2
  have f3:=df 3
  have f4:=df 4
  have HNB:R≠w.heap.size:=by omega
  clear h1 hr1 ht1 df
  go_wp2
  have hf:=HX9.out.fin
  refine bodyPost_ret (lk_res rfl rfl hf.1) rfl ?_
  exact⟨rfl,((((HR9.out.store 0 _ HNB (fun h0=>by have:=HBW.out h0;omega)).store 1 _ HNB (fun h0=>by have:=HBW.out h0;omega)).store 2 _ HNB (fun h0=>by have:=HBW.out h0;omega)).store 3 _ HNB (fun h0=>by have:=HBW.out h0;omega)).store 4 _ HNB (fun h0=>by have:=HBW.out h0;omega),hf.2⟩
 |false=>
  have hl:lockS L s false=((false,a1,a2,0,0),needS L s2 3 [59]):=by
   unfold lockS
   simp only [e1,e2,Bool.false_eq_true,if_false]
  rw [hl]
  clear e1 e2 hl
  go_enter Tryz.func79,Tryz.ntmps79
  go_wp2_with fail
  have h1:=HF.out _ _ HR0.out ⟨#[115,108,105,99,101]⟩ 16
  rw [show (⟨#[115,108,105,99,101]⟩:ByteArray).data.toList=sliceB from rfl,E1.out] at h1
  refine h1.mono ?_
  rintro r w1 ⟨rfl,hr1,ht1⟩
  have HX1:=xhd (HS0.out.turned hR ht1)
  have b1:=frozen_of_row _ _ 1 _ _ HX1.out.box
  obtain⟨c0,c1,c2,c3,c4, -⟩:=five_cells HX1.out.box
  have HQ1:=xhd (hr1.store (k:=w.heap.size+1) 1 (.int .i64 a1) (by omega) (fun h0=>by have:=HBW.out h0;omega))
  have HZ1:=xhd (HX1.out.set (k:=1) (v:= .int .i64 a1) (x':=(false,a1,0,0,0)) rfl)
  clear h1 hr1 ht1
  go_wp2_with fail
  have h1:=HF.out _ _ HQ1.out ⟨#[99,114,105,116]⟩ 32
  rw [show (⟨#[99,114,105,116]⟩:ByteArray).data.toList=critB from rfl,E2.out] at h1
  refine h1.mono ?_
  rintro r w2 ⟨rfl,hr1,ht1⟩
  have HX2:=xhd (HZ1.out.turned hR ht1)
  have b2:=frozen_of_row _ _ 2 _ _ HX2.out.box
  clear c0 c1 c2 c3 c4
  obtain⟨c0,c1,c2,c3,c4, -⟩:=five_cells HX2.out.box
  have HQ2:=xhd (hr1.store (k:=w.heap.size+1) 2 (.int .i64 a2) (by omega) (fun h0=>by have:=HBW.out h0;omega))
  have HZ2:=xhd (HX2.out.set (k:=2) (v:= .int .i64 a2) (x':=(false,a1,a2,0,0)) rfl)
  clear h1 hr1 ht1
  go_wp2_with fail
  have h1:=HNE.out _ _ HQ2.out
  refine h1.mono ?_
  rintro r w9 ⟨rfl,hr1,ht1⟩
  have HX9:=xhd (HZ2.out.turned hR ht1)
  have HR9:=xhd hr1
  clear c0 c1 c2 c3 c4
  obtain⟨c0,c1,c2,c3,c4, -⟩:=five_cells HX9.out.box
  obtain⟨d0,d1,d2,d3,d4,df⟩:=five_cells HX9.out.res
  have f0:=df 0
  have f1:=df 1
  have f2:=df 2
  have f3:=df 3
  have f4:=df 4
  have HNB:R≠w.heap.size:=by omega
  clear h1 hr1 ht1 df
  go_wp2
  have hf:=HX9.out.fin
  refine bodyPost_ret (lk_res rfl rfl hf.1) rfl ?_
  exact⟨rfl,((((HR9.out.store 0 _ HNB (fun h0=>by have:=HBW.out h0;omega)).store 1 _ HNB (fun h0=>by have:=HBW.out h0;omega)).store 2 _ HNB (fun h0=>by have:=HBW.out h0;omega)).store 3 _ HNB (fun h0=>by have:=HBW.out h0;omega)).store 4 _ HNB (fun h0=>by have:=HBW.out h0;omega),hf.2⟩
theorem turned_in {w V w':World} {b T:Nat} (h1:Turned [b] w V) (hT:w.heap.size≤T) (h2:Turned [b,T] V w'):Turned [b] w w':=by
 refine⟨h2.os.trans h1.os,h2.tape.trans h1.tape,h2.output.trans h1.output,Nat.le_trans h1.size h2.size,fun k hk hx=>?_⟩
 have h3:=h1.size
 exact (h2.block k (by omega) (by simp at hx ⊢;exact⟨hx,by omega⟩)).trans (h1.block k hk hx)
theorem lineR_group (L:List Wd) (s:Rd) (o:Nat) (X:Array Value):
 lineR L ⟨#[103,114,111,117,112]⟩ [(⟨#[]⟩,16,o)] s X=(needS L (fieldS L s groupB 16).2 3 [59],X.setIfInBounds o (.int .i64 (fieldS L s groupB 16).1)):=rfl
theorem lineR_cores (L:List Wd) (s:Rd) (o:Nat) (X:Array Value):
 lineR L ⟨#[99,111,114,101,115]⟩ [(⟨#[]⟩,4,o)] s X=(needS L (fieldS L s coresB 4).2 3 [59],X.setIfInBounds o (.int .i64 (fieldS L s coresB 4).1)):=rfl
theorem lineR_grain (L:List Wd) (s:Rd) (o:Nat) (X:Array Value):
 lineR L ⟨#[103,114,97,105,110]⟩ [(⟨#[]⟩,8,o)] s X=(needS L (fieldS L s grainB 8).2 3 [59],X.setIfInBounds o (.int .i64 (fieldS L s grainB 8).1)):=rfl
def lockQ (L:List Wd) (s:Rd):Lk×Rd:=lockS L (needS L s 1 (if isR L s.1 1 sharedB then sharedB else lockB)) (isR L s.1 1 sharedB)
theorem lineR_lock (L:List Wd) (s:Rd) (sh:Bool):
  lineR L (lkF sh) (lkN sh) s #[.bool sh, .int .i64 0, .int .i64 0, .int .i64 0, .int .i64 0]=((lockS L (needS L s 1 (if sh then sharedB else lockB)) sh).2,lkA (lockS L (needS L s 1 (if sh then sharedB else lockB)) sh).1):=by
 cases sh<;>rfl
theorem needS_dead {L:List Wd} {s:Rd} (h:s.2≠0) (k:Int) (t:List By):needS L s k t=s:=by
 unfold needS isS
 rw [decide_eq_false h,Bool.false_and,if_neg (by decide),if_neg h]
theorem numS_dead {L:List Wd} {s:Rd} (h:s.2≠0) (most:Int):numS L s most=(0,s):=by
 unfold numS
 rw [if_pos h]
theorem fieldS_dead {L:List Wd} {s:Rd} (h:s.2≠0) (t:List By) (most:Int):fieldS L s t most=(0,s):=by
 unfold fieldS
 rw [needS_dead h,numS_dead h]
theorem lockS_dead {L:List Wd} {s:Rd} (h:s.2≠0) (sh:Bool):(lockS L s sh).2=s:=by
 unfold lockS
 cases sh<;>simp only [fieldS_dead h,needS_dead h,if_true,if_false,Bool.false_eq_true]
theorem lockQ_dead {L:List Wd} {s:Rd} (h:s.2≠0):(lockQ L s).2=s:=by
 unfold lockQ
 rw [needS_dead h,lockS_dead h]
theorem lockQ_live {L:List Wd} {s:Rd} (h:isS L s 1 lockB=true∨isS L s 1 sharedB=true):lockQ L s=lockS L (s.1+1,s.2) (isS L s 1 sharedB):=by
 have h0:s.2=0:=by
  rcases h with h|h<;> · unfold isS at h;simp only [Bool.and_eq_true,decide_eq_true_eq] at h;exact h.1
 have e:∀t,isS L s 1 t=isR L s.1 1 t:=fun t=>by
  unfold isS
  rw [decide_eq_true h0,Bool.true_and]
 unfold lockQ
 rw [←e]
 cases hs:isS L s 1 sharedB with
 |true=>
  rw [if_pos rfl]
  have:needS L s 1 sharedB=(s.1+1,s.2):=by unfold needS;rw [if_pos hs]
  rw [this]
 |false=>
  rw [hs] at h
  have hl:isS L s 1 lockB=true:=by
   rcases h with h|h
   ·exact h
   ·cases h
  rw [if_neg (by decide)]
  have:needS L s 1 lockB=(s.1+1,s.2):=by unfold needS;rw [if_pos hl]
  rw [this]
theorem RwI.store {w:World} {b:Nat} {ao:Option Addr} {bw off cap:Nat} {L:List Wd} {s:Rd} (h:RwI w b ao bw off cap L s) {k:Nat} (o:Nat) (v:Value) (h1:b≠k) (h2:0 < L.length→bw≠k):RwI (w.setCell ⟨k,o,none⟩ v) b ao bw off cap L s:=
 ⟨(Below.heap_setCell _ _ _ _ h1).trans h.rd,h.ws.same (fun h0=>Below.heap_setCell _ _ _ _ (h2 h0)),h.ne,h.le,h.len⟩
theorem five_stored {w V:World} {b:Nat} {ao:Option Addr} {bw off cap:Nat} {L:List Wd} {s:Rd} (hz:V.heap[w.heap.size]?=some (.cells #[.bool false, .int .i64 0, .int .i64 0, .int .i64 0, .int .i64 0] 100 (0,0))) (x:Lk) (ht:Turned [b] w V) (hr:RwI V b ao bw off cap L s) (h1:b≠w.heap.size) (h2:0 < L.length→bw≠w.heap.size):
  (((((V.setCell ⟨w.heap.size,0,none⟩ (.bool x.1)).setCell ⟨w.heap.size,1,none⟩ (.int .i64 x.2.1)).setCell ⟨w.heap.size,2,none⟩ (.int .i64 x.2.2.1)).setCell ⟨w.heap.size,3,none⟩ (.int .i64 x.2.2.2.1)).setCell ⟨w.heap.size,4,none⟩ (.int .i64 x.2.2.2.2)).heap[w.heap.size]?=some (.cells (lkA x) 100 (0,0))∧
  RwP b ao bw off cap L s w (((((V.setCell ⟨w.heap.size,0,none⟩ (.bool x.1)).setCell ⟨w.heap.size,1,none⟩ (.int .i64 x.2.1)).setCell ⟨w.heap.size,2,none⟩ (.int .i64 x.2.2.1)).setCell ⟨w.heap.size,3,none⟩ (.int .i64 x.2.2.2.1)).setCell ⟨w.heap.size,4,none⟩ (.int .i64 x.2.2.2.2)):=by
 have hn:w.heap.size≤w.heap.size:=Nat.le_refl _
 refine⟨?_,((((RwI.store hr _ _ h1 h2).store _ _ h1 h2).store _ _ h1 h2).store _ _ h1 h2).store _ _ h1 h2,((((ht.setCell (.inr hn) _).setCell (.inr hn) _).setCell (.inr hn) _).setCell (.inr hn) _).setCell (.inr hn) _⟩
 rw [heap_setCell_same _ _ _ _ _ _ (heap_setCell_same _ _ _ _ _ _ (heap_setCell_same _ _ _ _ _ _ (heap_setCell_same _ _ _ _ _ _ (heap_setCell_same _ _ _ _ _ _ hz))))]
 rfl
theorem readgroup_any {w:World} {b:Nat} {ao:Option Addr} {bw off cap:Nat} {L:List Wd} {s:Rd} (h:RwI w b ao bw off cap L s) (hL:Clean L):
  Calls Tryz.prog 128 #[.pointer (some ⟨b,0,none⟩)] w fun r w'=>r= .returned (.int .i64 (fieldS L s groupB 16).1)∧RwP b ao bw off cap L (needS L (fieldS L s groupB 16).2 3 [59]) w w':=by
 have hb0:=lt_of_block h.rd
 have hbw:0 < L.length→bw < w.heap.size:=fun h0=>(h.ws.at_ h0).2
 have HB:=xhd (Below.refl w.heap.size w |>.alloc (Nat.le_refl _) (.cells #[.int .i64 0] 3))
 have HG:=xhd (groupline_any w.heap.size 0 (w.alloc (.cells #[.int .i64 0] 3)))
 have HRD:=xhd (fun (V:World) (hV:Below (w.alloc (.cells #[.int .i64 0] 3)).heap.size (w.alloc (.cells #[.int .i64 0] 3)) V) (nb nc:Nat) (hN:NArg V nb 0 w.heap.size [(⟨#[]⟩,16,0)]) (hnb:w.heap.size+1≤nb)=>(by
  have k:=box_kept hV
  exact lread_any ⟨#[103,114,111,117,112]⟩ nb 0 nc [(⟨#[]⟩,16,0)] (RdI.below h k.2) hL k.1 hN (by omega) (by omega) (by omega) (fun h0=>by have:=hbw h0;omega) (by simp) (by simp):
   Calls Tryz.prog 126 #[.agg #[.string ⟨#[103,114,111,117,112]⟩, .slice (some ⟨nb,0,none⟩) [((⟨#[]⟩,16,0):Nm)].length nc], .pointer (some ⟨b,0,none⟩)] V _))
 have HT:=xhd (fun (V:World) (hV:Below (w.alloc (.cells #[.int .i64 0] 3)).heap.size (w.alloc (.cells #[.int .i64 0] 3)) V)=>turned_below (box_kept hV).2 [b])
 simp only [lineR_group] at HRD
 obtain⟨⟨v,s1⟩,hs1⟩:∃x,fieldS L s groupB 16=x:=⟨_,rfl⟩
 rw [hs1]
 simp only [hs1] at HRD
 simp only [List.length_singleton] at HRD
 clear h hL hs1 hb0 hbw
 go_enter Tryz.func128,Tryz.ntmps128
 go_wp2_with fail
 refine HG.out.mono ?_
 rintro r w1 ⟨nb,nc,rfl,hN,hnb,hb1⟩
 have HC:=xhd (HRD.out w1 hb1 nb nc hN (by simpa using hnb))
 have HT1:=xhd (HT.out w1 hb1)
 clear hN hnb hb1
 go_wp2_with fail
 with_reducible refine HC.out.mono ?_
 rintro r w2 ⟨rfl,h1,h2,h3⟩
 have HR:=xhd h1
 have HT2:=xhd (turned_in HT1.out (Nat.le_refl _) h3)
 have c0:=cell_at (k:=0) h2 (by simp)
 simp at c0
 clear h1 h2 h3
 go_wp2
 go_ret
 exact⟨rfl,HR.out,HT2.out⟩
theorem readlock_any {w:World} {b:Nat} {ao:Option Addr} {bw off cap:Nat} {L:List Wd} {s:Rd} (h:RwI w b ao bw off cap L s) (hL:Clean L):
  Calls Tryz.prog 130 #[.pointer (some ⟨b,0,none⟩)] w fun r w'=>r= .returned (.agg (lkA (lockQ L s).1))∧RwP b ao bw off cap L (lockQ L s).2 w w':=by
 have hb0:=lt_of_block h.rd
 have hbw:0 < L.length→bw < w.heap.size:=fun h0=>(h.ws.at_ h0).2
 unfold lockQ
 have hsh:isR L s.1 1 sharedB=decide (nextR L s.1=(1,sharedB,0,0)):=is_next hL (.inl rfl)
 obtain⟨sh,hshe⟩:∃sh,isR L s.1 1 sharedB=sh:=⟨_,rfl⟩
 have hq:=fun W=>eq_words (nextR L s.1) (1,sharedB,0,0) W
 rw [←hsh,hshe] at hq
 rw [hshe]
 have hnx:=fun V (hV:RdI V b ao bw off cap L s.1 s.2)=>next_any hV
 obtain⟨y,hy⟩:∃y,nextR L s.1=y:=⟨_,rfl⟩
 rw [hy] at hq
 simp only [hy] at hnx
 unfold wdV at hq hnx
 obtain⟨ty,hty⟩:∃t:ByteArray,⟨y.2.1.toArray⟩=t:=⟨_,rfl⟩
 simp only [hty] at hq hnx
 obtain⟨y0,_,y2,y3⟩:=y
 simp only at hq hnx
 obtain⟨Z,hZ⟩:∃Z,Z=Obj.cells #[.bool false, .int .i64 0, .int .i64 0, .int .i64 0, .int .i64 0] 100:=⟨_,rfl⟩
 have HNX:=xhd (hnx (w.alloc Z) (RdI.below h ((Below.refl _ w).alloc (Nat.le_refl _) _)))
 rw [hZ] at HNX
 have HNM:=xhd (fun s W=>pname_any s W)
 have HLL:=xhd (fun (V:World) (hV:Below (w.alloc (.cells #[.bool false, .int .i64 0, .int .i64 0, .int .i64 0, .int .i64 0] 100)).heap.size (w.alloc (.cells #[.bool false, .int .i64 0, .int .i64 0, .int .i64 0, .int .i64 0] 100)) V)=>(by
  have h1:=heap_alloc_new V (.cells #[.bool sh, .int .i64 0, .int .i64 0, .int .i64 0, .int .i64 0] 100)
  have k:=box_kept hV
  have hs:=k.2.size
  have hz:=lt_of_block k.1
  refine⟨lockline_any V.heap.size _ sh (by simp) ?_,fun V2 hV2 nb nc hN hnb=>?_,fun V2 hV2=>⟨?_,?_⟩⟩
  ·exact (five_cells h1).1
  ·have k2:=box_kept hV2
   have hr:=lread_any (lkF sh) nb 0 nc (lkN sh) (RdI.below (RdI.below h k.2) k2.2) hL k2.1 hN (by omega) (by omega) (by omega) (fun h0=>by have:=hbw h0;omega) (by cases sh<;>simp [lkN]) (by cases sh<;>simp [lkN])
   rw [lineR_lock] at hr
   exact hr
  ·exact turned_below (k.2.trans ((box_kept hV2).2.mono hs)) [b]
  ·exact ((box_kept hV2).2.block _ hz).trans k.1:
   Calls Tryz.prog 89 #[.pointer (some ⟨V.heap.size,0,none⟩)] (V.alloc (.cells #[.bool sh, .int .i64 0, .int .i64 0, .int .i64 0, .int .i64 0] 100)) (LineP (lkF sh) (lkN sh) V.heap.size (V.alloc (.cells #[.bool sh, .int .i64 0, .int .i64 0, .int .i64 0, .int .i64 0] 100)))∧
   (∀(V2:World) (hV2:Below (V.alloc (.cells #[.bool sh, .int .i64 0, .int .i64 0, .int .i64 0, .int .i64 0] 100)).heap.size (V.alloc (.cells #[.bool sh, .int .i64 0, .int .i64 0, .int .i64 0, .int .i64 0] 100)) V2) (nb nc:Nat) (hN:NArg V2 nb 0 V.heap.size (lkN sh)) (hnb:V.heap.size+1≤nb),
     Calls Tryz.prog 126 #[.agg #[.string (lkF sh), .slice (some ⟨nb,0,none⟩) (lkN sh).length nc], .pointer (some ⟨b,0,none⟩)] V2 fun r w'=>r= .returned (.tuple #[])∧RwI w' b ao bw off cap L (lockS L (needS L s 1 (if sh then sharedB else lockB)) sh).2∧w'.heap[V.heap.size]?=some (.cells (lkA (lockS L (needS L s 1 (if sh then sharedB else lockB)) sh).1) 100 (0,0))∧Turned [b,V.heap.size] V2 w')∧
   (∀(V2:World) (hV2:Below (V.alloc (.cells #[.bool sh, .int .i64 0, .int .i64 0, .int .i64 0, .int .i64 0] 100)).heap.size (V.alloc (.cells #[.bool sh, .int .i64 0, .int .i64 0, .int .i64 0, .int .i64 0] 100)) V2),Turned [b] w V2∧V2.heap[w.heap.size]?=some (.cells #[.bool false, .int .i64 0, .int .i64 0, .int .i64 0, .int .i64 0] 100 (0,0)))))
 have HSZ:=xhd hb0
 have HBW:=xhd (fun h0=>(by have:=hbw h0;omega:bw≠w.heap.size))
 obtain⟨⟨x,s'⟩,hs1⟩:∃x,lockS L (needS L s 1 (if sh then sharedB else lockB)) sh=x:=⟨_,rfl⟩
 rw [hs1]
 simp only [hs1] at HLL
 clear h hL hs1 hb0 hbw hsh hshe hy hty hZ hnx
 go_enter Tryz.func130,Tryz.ntmps130
 go_wp2_with fail
 with_reducible refine HNX.out.mono ?_
 rintro r w1 ⟨rfl,hb1⟩
 have HB1:=xhd hb1
 clear hb1
 go_wp2_with fail
 with_reducible refine (HNM.out _ _).mono ?_
 rintro r w2 ⟨rfl,hb2⟩
 have HB2:=xhd (HB1.out.trans (hb2.mono HB1.out.size))
 clear hb2
 have HL:=xhd (HLL.out w2 HB2.out)
 go_wp2_with fail
 refine HL.out.1.mono ?_
 rintro r w3 ⟨nb,nc,rfl,hN,hnb,hb3⟩
 have HC:=xhd (HL.out.2.1 w3 hb3 nb nc hN (by simpa using hnb))
 have HT1:=xhd (HL.out.2.2 w3 hb3)
 clear hN hnb hb3
 obtain⟨n,hn⟩:∃n,(lkN sh).length=n:=⟨_,rfl⟩
 rw [hn] at HC ⊢
 clear hn
 obtain⟨lf,hlf⟩:∃n,lkF sh=n:=⟨_,rfl⟩
 rw [hlf] at HC ⊢
 clear hlf
 go_wp2_with fail
 with_reducible refine HC.out.mono ?_
 rintro r w4 ⟨rfl,h1,h2,h3⟩
 have HR:=xhd h1
 have hsz:w.heap.size≤w2.heap.size:=by have:=HB2.out.size;simp at this;omega
 have hlt:w.heap.size < w2.heap.size:=by have:=HB2.out.size;simp at this;omega
 have HT2:=xhd (turned_in HT1.out.1 hsz h3)
 have hz:=(h3.block _ (lt_of_block HT1.out.2) (by have:=HSZ.out;simp;omega)).trans HT1.out.2
 obtain⟨c0,c1,c2,c3,c4,_⟩:=five_cells h2
 obtain⟨z0,z1,z2,z3,z4,_⟩:=five_cells hz
 have f0:=not_frozen hz 0
 have f1:=not_frozen hz 1
 have f2:=not_frozen hz 2
 have f3:=not_frozen hz 3
 have f4:=not_frozen hz 4
 have HF:=xhd (five_stored hz x HT2.out HR.out (by have:=HSZ.out;omega) HBW.out)
 clear h1 h2 h3 hz hlt hsz
 go_wp2
 refine bodyPost_ret (lk_res rfl rfl HF.out.1) rfl ?_
 exact⟨rfl,HF.out.2⟩
theorem rcheck_not (f:Bool) (ao:Option Addr) (b off cap:Nat) (L:List Opn) (ao2:Option Addr) (m cap2:Nat) (progs:Int) (w:World) (h:OArg w ao b off L) (hs:∀x ∈ L,small x.1) (hl:L.length≤100000) (hq:mayR (f,L)=false):
  Calls Tryz.prog 52 #[prgV f ao L.length cap, .slice ao2 m cap2, .int .i64 progs] w (CkP (0,1) w):=by
 have hb0:Below w.heap.size w (w.alloc (.cells #[.bool f, .slice ao L.length cap] 49)):=(Below.refl _ w).alloc (Nat.le_refl _) _
 have hmay:=rmay_any f ao b off cap L _ (h.below hb0) hl hs
 rw [hq] at hmay
 obtain⟨n,hn⟩:∃n,L.length=n:=⟨_,rfl⟩
 rw [hn] at hmay ⊢
 have HMAY:=xhd hmay
 clear h hs hq hb0 hmay hn hl
 go_enter Tryz.func52,Tryz.ntmps52
 go_wp2_with fail
 refine HMAY.out.mono ?_
 rintro e w1 ⟨rfl,hb1⟩
 have HB:=xhd (box_kept hb1).2
 clear hb1
 go_wp2
 go_ret2
 exact⟨rfl,HB.out⟩
theorem rcheck_any (f:Bool) (ao:Option Addr) (b off cap:Nat) (L:List Opn) (ao2:Option Addr) (b2 off2 cap2:Nat) (locks:List Lk) (progs:Int) (w:World) (h:OArg w ao b off L) (hl:LArg w ao2 b2 off2 locks) (hs:∀x ∈ L,small x.1) (hm:L.length≤100000) (hm2:locks.length≤100000):
  Calls Tryz.prog 52 #[prgV f ao L.length cap, .slice ao2 locks.length cap2, .int .i64 progs] w (CkP (checkR (f,L) locks progs) w):=by
 unfold checkR
 cases hq:mayR (f,L) with
 |true=>exact rcheck_may f ao b off cap L ao2 b2 off2 cap2 locks progs w h hl hs hm2 hq
 |false=>exact rcheck_not f ao b off cap L ao2 locks.length cap2 progs w h hs hm hq
structure IArg (w:World) (ao:Option Addr) (b off:Nat) (L:List Int):Prop where
 at_:0 < L.length→ao=some ⟨b,off,none⟩∧b < w.heap.size
 cells:∀i (hi:i < L.length),w.cell? ⟨b,off+i,none⟩=some (.int .i64 L[i])
theorem IArg.below {w w':World} {ao:Option Addr} {b off:Nat} {L:List Int} (h:IArg w ao b off L) (hb:Below w.heap.size w w'):IArg w' ao b off L:=by
 refine⟨fun h0=>⟨(h.at_ h0).1,Nat.lt_of_lt_of_le (h.at_ h0).2 hb.size⟩,fun i hi=>?_⟩
 have hl:=(h.at_ (by omega)).2
 exact (hb.cell (p:=⟨b,off+i,none⟩) hl).trans (h.cells i hi)
structure GArg (w:World) (ao:Option Addr) (b off:Nat) (L:List Prg):Prop where
 at_:0 < L.length→ao=some ⟨b,off,none⟩∧b < w.heap.size
 cells:∀i (hi:i < L.length),∃(ai:Option Addr) (bi oi ci:Nat),w.cell? ⟨b,off+i*2,none⟩=some (.bool L[i].1)∧w.cell? ⟨b,off+i*2+1,none⟩=some (.slice ai L[i].2.length ci)∧OArg w ai bi oi L[i].2
theorem GArg.below {w w':World} {ao:Option Addr} {b off:Nat} {L:List Prg} (h:GArg w ao b off L) (hb:Below w.heap.size w w'):GArg w' ao b off L:=by
 refine⟨fun h0=>⟨(h.at_ h0).1,Nat.lt_of_lt_of_le (h.at_ h0).2 hb.size⟩,fun i hi=>?_⟩
 have hl:=(h.at_ (by omega)).2
 obtain⟨ai,bi,oi,ci,h0,h1,h2⟩:=h.cells i hi
 exact⟨ai,bi,oi,ci,(hb.cell (p:=⟨b,off+i*2,none⟩) hl).trans h0,(hb.cell (p:=⟨b,off+i*2+1,none⟩) hl).trans h1,h2.below hb⟩
abbrev stC (c g:Int) (ag:Option Addr) (ng cg:Nat) (al:Option Addr) (nl cl:Nat) (ap:Option Addr) (np cp:Nat):Array Value:= #[.int .i64 c, .int .i64 g, .slice ag ng cg, .slice al nl cl, .slice ap np cp]
structure SArg (w:World) (s:Stp) (ag:Option Addr) (bg og:Nat) (al:Option Addr) (bl ol:Nat) (ap:Option Addr) (bp op:Nat):Prop where
 gs:IArg w ag bg og s.2.2.1
 ls:LArg w al bl ol s.2.2.2.1
 ps:GArg w ap bp op s.2.2.2.2
theorem SArg.below {w w':World} {s:Stp} {ag:Option Addr} {bg og:Nat} {al:Option Addr} {bl ol:Nat} {ap:Option Addr} {bp op:Nat} (h:SArg w s ag bg og al bl ol ap bp op) (hb:Below w.heap.size w w'):SArg w' s ag bg og al bl ol ap bp op:=
 ⟨h.gs.below hb,h.ls.below hb,h.ps.below hb⟩
structure SSize (s:Stp):Prop where
 g:s.2.2.1.length≤100000
 l:s.2.2.2.1.length≤100000
 p:s.2.2.2.2.length≤100000
 ops:∀x ∈ s.2.2.2.2,x.2.length≤100000∧∀o ∈ x.2,small o.1
theorem st_cells {w:World} {B:Nat} {a b c d e:Value} {t:TypeId} (h:w.heap[B]?=some (.cells #[a,b,c,d,e] t (0,0))):
  w.cell? ⟨B,0,none⟩=some a∧w.cell? ⟨B,1,none⟩=some b∧w.cell? ⟨B,2,none⟩=some c∧w.cell? ⟨B,3,none⟩=some d∧w.cell? ⟨B,4,none⟩=some e:=by
 refine⟨?_,?_,?_,?_,?_⟩<;>simp [World.cell?,h]
theorem mayS_eq (c g:Int) (gs:List Int) (ls:List Lk) (ps:List Prg):
  mayS (c,g,gs,ls,ps)=(inS c 4&&(inS g 8&&(inS gs.length 4&&(decide (ls.length≤8)&&(inS ps.length 8&&(gs.all (inS · 16)&&(ls.all lkMay&&ps.all (fitS ls ps.length)))))))):=by
 unfold mayS
 simp only [Bool.and_assoc]
theorem rwithin_any (n most:Int) (w:World):Calls Tryz.prog 51 #[.int .i64 n, .int .i64 most] w fun e w'=>e= .returned (.bool (inS n most))∧w'=w:=by
 by_cases h1:1≤n
 ·have e:inS n most=decide (n≤most):=by simp [inS,h1]
  rw [e]
  go_enter Tryz.func51,Tryz.ntmps51
  go_wp2
  go_ret
  exact⟨rfl,rfl⟩
 ·have e:inS n most=false:=by simp [inS,h1]
  rw [e]
  go_enter Tryz.func51,Tryz.ntmps51
  go_wp2
  go_ret
  exact⟨rfl,rfl⟩
theorem ctakes_any (k a c:Int) (w:World):Calls Tryz.prog 169 #[.agg #[.int .i64 k, .int .i64 a, .int .i64 c]] w fun e w'=>e= .returned (.bool (takesR (k,a,c)))∧Below w.heap.size w w':=by
 by_cases h2:k=2
 ·subst h2
  go_enter Tryz.func169,Tryz.ntmps169
  go_wp2
  go_ret
  exact⟨by simp [takesR],(Below.refl _ w).alloc (Nat.le_refl _) _⟩
 ·have q2:(k == 2)=false:=by simpa using h2
  by_cases h3:k=3
  ·subst h3
   go_enter Tryz.func169,Tryz.ntmps169
   go_wp2
   go_ret
   exact⟨by simp [takesR],(Below.refl _ w).alloc (Nat.le_refl _) _⟩
  ·have q3:(k == 3)=false:=by simpa using h3
   by_cases h4:k=4
   ·subst h4
    go_enter Tryz.func169,Tryz.ntmps169
    go_wp2
    go_ret
    exact⟨by simp [takesR],(Below.refl _ w).alloc (Nat.le_refl _) _⟩
   ·have q4:(k == 4)=false:=by simpa using h4
    by_cases h5:k=5
    ·subst h5
     go_enter Tryz.func169,Tryz.ntmps169
     go_wp2
     go_ret
     exact⟨by simp [takesR],(Below.refl _ w).alloc (Nat.le_refl _) _⟩
    ·have q5:(k == 5)=false:=by simpa using h5
     have e:takesR (k,a,c)=false:=by
      simp [takesR]
      omega
     rw [e]
     go_enter Tryz.func169,Tryz.ntmps169
     go_wp2
     go_ret
     exact⟨rfl,(Below.refl _ w).alloc (Nat.le_refl _) _⟩
theorem crests_any (k a c:Int) (w:World):Calls Tryz.prog 157 #[.agg #[.int .i64 k, .int .i64 a, .int .i64 c]] w fun e w'=>e= .returned (.bool (timeR (k,a,c)))∧Below w.heap.size w w':=by
 by_cases h2:k=1
 ·subst h2
  go_enter Tryz.func157,Tryz.ntmps157
  go_wp2
  go_ret
  exact⟨by simp [timeR],(Below.refl _ w).alloc (Nat.le_refl _) _⟩
 ·have q2:(k == 1)=false:=by simpa using h2
  by_cases h3:k=7
  ·subst h3
   go_enter Tryz.func157,Tryz.ntmps157
   go_wp2
   go_ret
   exact⟨by simp [timeR],(Below.refl _ w).alloc (Nat.le_refl _) _⟩
  ·have q3:(k == 7)=false:=by simpa using h3
   by_cases h4:k=8
   ·subst h4
    go_enter Tryz.func157,Tryz.ntmps157
    go_wp2
    go_ret
    exact⟨by simp [timeR],(Below.refl _ w).alloc (Nat.le_refl _) _⟩
   ·have q4:(k == 8)=false:=by simpa using h4
    by_cases h5:k=11
    ·subst h5
     go_enter Tryz.func157,Tryz.ntmps157
     go_wp2
     go_ret
     exact⟨by simp [timeR],(Below.refl _ w).alloc (Nat.le_refl _) _⟩
    ·have q5:(k == 11)=false:=by simpa using h5
     have e:timeR (k,a,c)=false:=by simp [timeR,h2,h3,h4,h5]
     rw [e]
     go_enter Tryz.func157,Tryz.ntmps157
     go_wp2
     go_ret
     exact⟨rfl,(Below.refl _ w).alloc (Nat.le_refl _) _⟩
theorem cends_any (k a c lock:Int) (w:World):Calls Tryz.prog 197 #[.agg #[.int .i64 k, .int .i64 a, .int .i64 c], .int .i64 lock] w fun e w'=>e= .returned (.bool (endCr lock (k,a,c)))∧Below w.heap.size w w':=by
 by_cases h2:k=11
 ·subst h2
  go_enter Tryz.func197,Tryz.ntmps197
  go_wp2
  go_ret
  exact⟨by simp [endCr],(Below.refl _ w).alloc (Nat.le_refl _) _⟩
 ·have q2:(k == 11)=false:=by simpa using h2
  by_cases h3:k=6
  ·subst h3
   by_cases h4:a=lock
   ·subst h4
    go_enter Tryz.func197,Tryz.ntmps197
    go_wp2
    go_ret
    exact⟨by simp [endCr],(Below.refl _ w).alloc (Nat.le_refl _) _⟩
   ·have q4:(a == lock)=false:=by simpa using h4
    have e:endCr lock (6,a,c)=false:=by simp [endCr,h4]
    rw [e]
    go_enter Tryz.func197,Tryz.ntmps197
    go_wp2
    go_ret
    exact⟨rfl,(Below.refl _ w).alloc (Nat.le_refl _) _⟩
  ·have q3:(k == 6)=false:=by simpa using h3
   have e:endCr lock (k,a,c)=false:=by simp [endCr,h2,h3]
   rw [e]
   go_enter Tryz.func197,Tryz.ntmps197
   go_wp2
   go_ret
   exact⟨rfl,(Below.refl _ w).alloc (Nat.le_refl _) _⟩
theorem there_any (k a c progs:Int) (n:Nat) (w:World):Calls Tryz.prog 168 #[.agg #[.int .i64 k, .int .i64 a, .int .i64 c], .int .i64 n, .int .i64 progs] w fun e w'=>e= .returned (.bool (!met4 n progs (k,a,c)))∧Below w.heap.size w w':=by
 by_cases h9:k=9
 ·subst h9
  by_cases hp:a < progs
  ·have e:(!met4 n progs (9,a,c))=true:=by simp [met4,takesR,hp]
   rw [e]
   go_enter Tryz.func168,Tryz.ntmps168
   go_wp2
   go_ret
   exact⟨by simp,(Below.refl _ w).alloc (Nat.le_refl _) _⟩
  ·have e:(!met4 n progs (9,a,c))=false:=by simp [met4];omega
   rw [e]
   go_enter Tryz.func168,Tryz.ntmps168
   go_wp2
   go_ret
   exact⟨by simp,(Below.refl _ w).alloc (Nat.le_refl _) _⟩
 ·have q9:(k == 9)=false:=by simpa using h9
  have hx:=heap_alloc_new w (.cells #[.int .i64 k, .int .i64 a, .int .i64 c] 142)
  have HT:=xhd (fun V=>ctakes_any k a c V)
  have HB0:=xhd ((Below.refl _ w).alloc (Nat.le_refl _) (.cells #[.int .i64 k, .int .i64 a, .int .i64 c] 142))
  have HX:=xhd hx
  clear hx
  by_cases ht:takesR (k,a,c)=true
  ·have e:(!met4 n progs (k,a,c))=decide (a < n):=by
     simp [met4,ht,h9]
     by_cases h:a < n
     ·rw [decide_eq_true h,decide_eq_false (by omega)];rfl
     ·rw [decide_eq_false h,decide_eq_true (by omega)];rfl
   rw [e]
   simp only [ht] at HT
   clear e ht
   go_enter Tryz.func168,Tryz.ntmps168
   go_wp2_with fail
   with_reducible refine (HT.out _).mono ?_
   rintro e w1 ⟨rfl,hb⟩
   obtain⟨z0,z1,z2⟩:=op_cells ((hb.block _ (lt_of_block HX.out)).trans HX.out)
   have HB:=xhd (HB0.out.trans (hb.mono HB0.out.size))
   clear hb
   go_wp2
   go_ret
   exact⟨rfl,HB.out⟩
  ·have ht2:takesR (k,a,c)=false:=by simpa using ht
   simp only [ht2] at HT
   by_cases h6:k=6
   ·subst h6
    have e:(!met4 n progs (6,a,c))=decide (a < n):=by
     simp [met4]
     by_cases h:a < n
     ·rw [decide_eq_true h,decide_eq_false (by omega)];rfl
     ·rw [decide_eq_false h,decide_eq_true (by omega)];rfl
    rw [e]
    clear e ht ht2
    go_enter Tryz.func168,Tryz.ntmps168
    go_wp2_with fail
    with_reducible refine (HT.out _).mono ?_
    rintro e w1 ⟨rfl,hb⟩
    obtain⟨z0,z1,z2⟩:=op_cells ((hb.block _ (lt_of_block HX.out)).trans HX.out)
    have HB:=xhd (HB0.out.trans (hb.mono HB0.out.size))
    clear hb
    go_wp2
    go_ret
    exact⟨rfl,HB.out⟩
   ·have q6:(k == 6)=false:=by simpa using h6
    have e:(!met4 n progs (k,a,c))=true:=by simp [met4,ht2,h6,h9]
    rw [e]
    clear e ht ht2
    go_enter Tryz.func168,Tryz.ntmps168
    go_wp2_with fail
    with_reducible refine (HT.out _).mono ?_
    rintro e w1 ⟨rfl,hb⟩
    obtain⟨z0,z1,z2⟩:=op_cells ((hb.block _ (lt_of_block HX.out)).trans HX.out)
    have HB:=xhd (HB0.out.trans (hb.mono HB0.out.size))
    clear hb
    go_wp2
    go_ret
    exact⟨rfl,HB.out⟩
structure SecJ (w wr:World) (i j:Nat) (lk t:Int):Prop where
 res:wr.heap[w.heap.size]?=some (.cells #[.int .i64 0, .int .i64 0, .int .i64 0, .int .i64 0] 167 (0,0))
 sec:wr.heap[w.heap.size+1]?=some (.cells #[.int .i64 i, .int .i64 (j:Nat), .int .i64 lk, .int .i64 t] 167 (0,0))
 bel:Below w.heap.size w wr
theorem SecJ.below {w wr wr':World} {i j:Nat} {lk t:Int} (h:SecJ w wr i j lk t) (hb:Below wr.heap.size wr wr'):SecJ w wr' i j lk t:=
 ⟨(hb.block _ (lt_of_block h.res)).trans h.res,(hb.block _ (lt_of_block h.sec)).trans h.sec,h.bel.trans (hb.mono h.bel.size)⟩
theorem SecJ.next {w wr:World} {i j:Nat} {lk t:Int} (h:SecJ w wr i j lk t):SecJ w (wr.setCell ⟨w.heap.size+1,1,none⟩ (.int .i64 ((j:Int)+1))) i (j+1) lk t:=by
 rw [show (j:Int)+1=((j+1:Nat):Int) by omega]
 refine⟨(Below.heap_setCell _ _ _ _ (by show w.heap.size≠w.heap.size+1;omega)).trans h.res,?_,h.bel.setCell (by show w.heap.size≤w.heap.size+1;omega) _⟩
 rw [heap_setCell_same _ _ _ _ _ _ h.sec]
 rfl
theorem SecJ.more {w wr:World} {i j:Nat} {lk t:Int} (h:SecJ w wr i j lk t) (t':Int):SecJ w (wr.setCell ⟨w.heap.size+1,3,none⟩ (.int .i64 t')) i j lk t':=by
 refine⟨(Below.heap_setCell _ _ _ _ (by show w.heap.size≠w.heap.size+1;omega)).trans h.res,?_,h.bel.setCell (by show w.heap.size≤w.heap.size+1;omega) _⟩
 rw [heap_setCell_same _ _ _ _ _ _ h.sec]
 rfl
theorem SecJ.start (w:World) (i:Nat) (lk:Int):
  SecJ w ((w.alloc (.cells #[.int .i64 0, .int .i64 0, .int .i64 0, .int .i64 0] 167)).alloc (.cells #[.int .i64 i, .int .i64 ((i+1:Nat):Int), .int .i64 lk, .int .i64 0] 167)) i (i+1) lk 0:=by
 have h1:=heap_alloc_new w (.cells #[.int .i64 0, .int .i64 0, .int .i64 0, .int .i64 0] 167)
 have h2:=heap_alloc_new (w.alloc (.cells #[.int .i64 0, .int .i64 0, .int .i64 0, .int .i64 0] 167)) (.cells #[.int .i64 i, .int .i64 ((i+1:Nat):Int), .int .i64 lk, .int .i64 0] 167)
 simp only [World.size_alloc] at h2
 exact⟨(Below.heap_alloc _ _ _ (by simp)).trans h1,h2,((Below.refl _ w).alloc (Nat.le_refl _) _).alloc (by simp) _⟩
theorem SecJ.fin {w wr:World} {i j:Nat} {lk t:Int} (h:SecJ w wr i j lk t):
  ((((wr.setCell ⟨w.heap.size,0,none⟩ (.int .i64 i)).setCell ⟨w.heap.size,1,none⟩ (.int .i64 (j:Nat))).setCell ⟨w.heap.size,2,none⟩ (.int .i64 lk)).setCell ⟨w.heap.size,3,none⟩ (.int .i64 t)).heap[w.heap.size]?=some (.cells #[.int .i64 i, .int .i64 (j:Nat), .int .i64 lk, .int .i64 t] 167 (0,0))∧
  Below w.heap.size w ((((wr.setCell ⟨w.heap.size,0,none⟩ (.int .i64 i)).setCell ⟨w.heap.size,1,none⟩ (.int .i64 (j:Nat))).setCell ⟨w.heap.size,2,none⟩ (.int .i64 lk)).setCell ⟨w.heap.size,3,none⟩ (.int .i64 t)):=by
 have hn:w.heap.size≤w.heap.size:=Nat.le_refl _
 refine⟨?_,(((h.bel.setCell (p:=⟨w.heap.size,0,none⟩) hn _).setCell (p:=⟨w.heap.size,1,none⟩) hn _).setCell (p:=⟨w.heap.size,2,none⟩) hn _).setCell (p:=⟨w.heap.size,3,none⟩) hn _⟩
 rw [heap_setCell_same _ _ _ _ _ _ (heap_setCell_same _ _ _ _ _ _ (heap_setCell_same _ _ _ _ _ _ (heap_setCell_same _ _ _ _ _ _ h.res)))]
 rfl
theorem csec_any (ao:Option Addr) (b off cap:Nat) (L:List Opn) (i:Nat) (w:World) (h:OArg w ao b off L) (hi:i < L.length) (hm:L.length≤12) (ho:∀o ∈ L,opMay o=true):
  Calls Tryz.prog 185 #[.slice ao L.length cap, .int .i64 i] w fun e w'=>e= .returned (.agg #[.int .i64 i, .int .i64 (secR (L[i]).2.1 (L.drop (i+1)) (i+1) 0).1, .int .i64 (L[i]).2.1, .int .i64 (secR (L[i]).2.1 (L.drop (i+1)) (i+1) 0).2])∧Below w.heap.size w w':=by
 have HA:=xhd h
 have HO:=xhd ho
 obtain⟨rfl,hb⟩:=h.at_ (by omega)
 obtain⟨-,y1, -⟩:=h.cells i hi
 obtain⟨lk,hlk⟩:∃lk,(L[i]).2.1=lk:=⟨_,rfl⟩
 rw [hlk] at y1 ⊢
 obtain⟨R,hR⟩:∃R,secR lk (L.drop (i+1)) (i+1) 0=R:=⟨_,rfl⟩
 have HR:=xhd hR
 rw [hR]
 have HS:=SecJ.start w i lk
 have HE:=xhd (fun k a c V=>cends_any k a c lk V)
 obtain⟨n,hn⟩:∃n,L.length=n:=⟨_,rfl⟩
 have HN:=xhd hn
 rw [hn] at hi hm ⊢
 have HS0:=xhd HS
 have i0:(0:Int)≤i:=by omega
 have i1:(i:Int) < n:=by omega
 have i2:IntKind.i64.wrap ((i:Int)+1)=((i+1:Nat):Int):=by rw [IntKind.wrap_i64];omega
 clear h ho hlk hR hn HS
 go_enter Tryz.func185,Tryz.ntmps185
 go_wp2_with fail
 obtain⟨W0,hW0⟩:∃W0,(w.alloc (.cells #[.int .i64 0, .int .i64 0, .int .i64 0, .int .i64 0] 167)).alloc (.cells #[.int .i64 i, .int .i64 ((i:Int)+1), .int .i64 lk, .int .i64 0] 167)=W0:=⟨_,rfl⟩
 have HS1:=HS0.out
 rw [show ((i+1:Nat):Int)=(i:Int)+1 by omega,hW0] at HS1
 rw [hW0]
 have HS2:=xhd HS1
 clear HS1 HS0 hW0 y1
 go_loopg [] (n - (i+1)) (fun g wr=>∃(j:Nat) (t:Int),g=n - j∧i+1≤j∧j≤n∧0≤t∧t≤16*j∧Hid (SecJ w wr i j lk t)∧Hid (R=secR lk (L.drop j) j t))
 case atStart=>exact⟨i+1,0,rfl,Nat.le_refl _,by omega,by omega,by omega,HS2,HR.out.symm⟩
 case round=>
  obtain⟨j,t,rfl,hj1,hj2,ht1,ht2,HI,HJ⟩:=hrel
  have HB0:=xhd ((Below.refl wr.heap.size wr).drew)
  obtain⟨s0,s1,s2,s3,sf⟩:=four_cells (HI.out.below HB0.out).sec
  by_cases hlt:j < n
  ·have hjL:j < L.length:=by rw [HN.out];exact hlt
   have hA:=HA.out.below (HI.out.below HB0.out).bel
   obtain⟨x0,x1,x2⟩:=hA.cells j hjL
   have hop:=HO.out L[j] (List.getElem_mem _)
   obtain⟨⟨k,a,c⟩,hx⟩:∃x,L[j]=x:=⟨_,rfl⟩
   have hd:L.drop j=(k,a,c)::L.drop (j+1):=by rw [List.drop_eq_getElem_cons hjL,hx]
   have HD:=xhd hd
   rw [hx] at x0 x1 x2 hop
   simp only at x0 x1 x2
   have hbc:k=1→1≤a∧a≤16:=by
    intro h1
    simp only [opMay,Bool.and_eq_true] at hop
    have ha:=hop.2.1
    unfold aMay limR at ha
    rw [if_pos h1] at ha
    simpa using ha
   have HBC:=xhd hbc
   have j0:(0:Int)≤j:=by omega
   have j1:(j:Int) < n:=by omega
   have j2:IntKind.i64.wrap ((j:Int)+1)=(j:Int)+1:=by rw [IntKind.wrap_i64];omega
   have HEJ:=xhd (fun V=>HE.out k a c V)
   obtain⟨q,hq⟩:∃q,endCr lk (k,a,c)=q:=⟨_,rfl⟩
   rw [hq] at HEJ
   have HQ:=xhd hq
   have p0:=And.intro s1 (And.intro s2 (And.intro x0 (And.intro x1 x2)))
   have HST:Hid (∀V,Below wr.heap.size wr V→V.cell? ⟨w.heap.size+1,1,none⟩=some (.int .i64 (j:Nat))∧V.cell? ⟨w.heap.size+1,2,none⟩=some (.int .i64 lk)∧V.cell? ⟨b,off+j*3,none⟩=some (.int .i64 k)∧V.cell? ⟨b,off+j*3+1,none⟩=some (.int .i64 a)∧V.cell? ⟨b,off+j*3+2,none⟩=some (.int .i64 c)):=xhd (by
    intro V hV
    obtain⟨s0,s1,s2,s3,sf⟩:=four_cells (HI.out.below hV).sec
    have hA:=HA.out.below (HI.out.below hV).bel
    obtain⟨x0,x1,x2⟩:=hA.cells j hjL
    rw [hx] at x0 x1 x2
    exact⟨s1,s2,x0,x1,x2⟩)
   clear hx hd hop hA sf hbc hq s0 s1 s2 s3 x0 x1 x2
   go_wp2_with fail
   go_region_held3 (fun V=>V.cell? ⟨w.heap.size+1,1,none⟩=some (.int .i64 (j:Nat))∧V.cell? ⟨w.heap.size+1,2,none⟩=some (.int .i64 lk)∧V.cell? ⟨b,off+j*3,none⟩=some (.int .i64 k)∧V.cell? ⟨b,off+j*3+1,none⟩=some (.int .i64 a)∧V.cell? ⟨b,off+j*3+2,none⟩=some (.int .i64 c))
    (first|exact p0|exact p1)
    (first
      |(go_at_call 197
        with_reducible refine (HEJ.out _).mono ?_
        rintro r V1 ⟨rfl,hb⟩
        have HV1:=xhd (HB0.out.trans (hb.mono HB0.out.size))
        have p1:=HST.out _ HV1.out
        clear hb))
   have HI1:=xhd (HI.out.below HV1.out)
   have ls:=lt_of_block HI1.out.sec
   obtain⟨-, -,x0,x1,x2⟩:=p1
   obtain⟨s0,s1,s2,s3,sf⟩:=four_cells HI1.out.sec
   obtain⟨r0,r1,r2,r3,rf⟩:=four_cells HI1.out.res
   have rf0:=rf 0
   have rf1:=rf 1
   have rf2:=rf 2
   have rf3:=rf 3
   have sf1:=sf 1
   have sf3:=sf 3
   clear p0 rf sf
   cases q with
   |true=>
    have HRR:Hid (R=(j,t)):=xhd (by rw [HJ.out,HD.out];unfold secR;rw [if_pos HQ.out])
    go_wp2
    have hf:=HI1.out.fin
    refine bodyPost_ret (sec_res rfl rfl hf.1) rfl ?_
    rw [HRR.out]
    exact⟨rfl,hf.2⟩
   |false=>
    by_cases h1:k=1
    ·subst h1
     have hb1:=HBC.out rfl
     have HJ2:Hid (R=secR lk (L.drop (j+1)) (j+1) (t+a)):=xhd (by rw [HJ.out,HD.out];conv=> { lhs;unfold secR };rw [HQ.out,if_neg (by decide),if_pos rfl])
     have t2:IntKind.i64.wrap (t+a)=t+a:=by rw [IntKind.wrap_i64];omega
     go_wp2_with fail
     go_region
     go_wp2
     go_roundg (n - (j+1))
     case measure=>omega
     case rel=>exact⟨j+1,t+a,rfl,by omega,by omega,by omega,by omega,xhd ((HI1.out.more (t+a)).next.below (Below.refl _ _).drew),HJ2⟩
    ·have q1:(k == 1)=false:=by simpa using h1
     have HJ2:Hid (R=secR lk (L.drop (j+1)) (j+1) t):=xhd (by rw [HJ.out,HD.out];conv=> { lhs;unfold secR };rw [HQ.out,if_neg (by decide),if_neg h1])
     go_wp2
     go_roundg (n - (j+1))
     case measure=>omega
     case rel=>(first|with_reducible exact⟨j+1,t,rfl,by omega,by omega,ht1,by omega,xhd HI1.out.next,HJ2⟩ |trace_state)
  ·have hd0:decide ((j:Int) < (n:Int))=false:=by
     rw [decide_eq_false_iff_not]
     omega
   have hd1:decide (j < n)=false:=decide_eq_false hlt
   have HRR:Hid (R=(j,t)):=xhd (by rw [HJ.out,List.drop_of_length_le (by rw [HN.out];omega)];rfl)
   obtain⟨r0,r1,r2,r3,rf⟩:=four_cells HI.out.res
   obtain⟨s0,s1,s2,s3, -⟩:=four_cells HI.out.sec
   have rf0:=rf 0
   have rf1:=rf 1
   have rf2:=rf 2
   have rf3:=rf 3
   have HF:=xhd (fun nq=>(HI.out.below (below_drewN (Below.refl _ wr) nq)).fin)
   clear rf sf
   go_wp2_with fail
   go_quiet (fail)
   go_wp2
   refine bodyPost_ret (sec_res rfl rfl (HF.out _).1) rfl ?_
   rw [HRR.out]
   exact⟨rfl,(HF.out _).2⟩
end Go.Proofs.YtbnhnnccioljhaaGreatDoor
