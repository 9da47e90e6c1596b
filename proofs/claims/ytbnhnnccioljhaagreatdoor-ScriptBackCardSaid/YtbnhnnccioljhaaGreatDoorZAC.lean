/-
  The program's shapes of ops: shapeOf, Name, has; name, number, mark.
  The program's Name, mayOp, kindOf.
  What Parse answers; steps of the document's.
  The program's reader: its block; next.
-/
import Derived.Test.YtbnhnnccioljhaaGreatDoorZAB
import Derived.Laws.StructEq
import Derived.Deep.RegionWith
import Derived.BigQuiet
import Derived.Deep.RegionHeld3
import Derived.Deep.QuietTactic
import Derived.Test.YtbnhnnccioljhaaGreatDoorZAl
set_option maxRecDepth 100000
set_option maxHeartbeats 25600000
namespace Go.Proofs.YtbnhnnccioljhaaGreatDoor
open Go.RowKit
def shN (k:Int):Int:=if 0≤(limR k).1 then (if k=5 then 2 else 1) else 0
def shA (k:Int):Int×Int:=if 0≤(limR k).1 then limR k else (0,0)
def shB (k:Int):Int×Int:=if k=5 then (1,64) else (0,0)
abbrev shC (k:Int):Array Value:= #[.string ⟨(nameR k).toArray⟩, .int .i64 (shN k), .int .i64 (shA k).1, .int .i64 (shA k).2, .int .i64 (shB k).1, .int .i64 (shB k).2]
theorem results_one {fn:Func} {p:Tmp} {ty:TypeId} (h:fn.results= #[.cell p ty]) (tmps:Array Value) (P:Program) (w:World):
  (results fn tmps).run P w=((asAddr (tmps.getD p undef)).run P w).andThen fun a w₁=>(loadVar ty a).run P w₁:=by
 simp only [results,h]
 simp [Sem.run_bind,Result.andThen]
theorem word_res {fn:Func} {p:Tmp} (hf:fn.results= #[.cell p 95]) {tmps:Array Value} {w:World} {B:Nat} {a b c d:Value} (hp:tmps.getD p undef= .pointer (some ⟨B,0,none⟩)) (h:w.heap[B]?=some (.cells #[a,b,c,d] 95 (0,0))):
  (results fn tmps).run Tryz.prog w= .ok (.agg #[a,b,c,d]) w:=by
 obtain⟨h0,h1,h2,h3⟩:=word_cells h
 rw [results_one hf,hp]
 simp [loadVar,go_sem,h0,h1,h2,h3]
theorem six_cells {w:World} {B:Nat} {a b c d e f:Value} {t:TypeId} (h:w.heap[B]?=some (.cells #[a,b,c,d,e,f] t (0,0))):
  w.cell? ⟨B,0,none⟩=some a∧w.cell? ⟨B,1,none⟩=some b∧w.cell? ⟨B,2,none⟩=some c∧w.cell? ⟨B,3,none⟩=some d∧w.cell? ⟨B,4,none⟩=some e∧w.cell? ⟨B,5,none⟩=some f:=by
 refine⟨?_,?_,?_,?_,?_,?_⟩<;>simp [World.cell?,h]
theorem shape_res {fn:Func} {p:Tmp} (hf:fn.results= #[.cell p 201]) {tmps:Array Value} {w:World} {B:Nat} {a b c d e f:Value} (hp:tmps.getD p undef= .pointer (some ⟨B,0,none⟩)) (h:w.heap[B]?=some (.cells #[a,b,c,d,e,f] 201 (0,0))):
  (results fn tmps).run Tryz.prog w= .ok (.agg #[a,b,c,d,e,f]) w:=by
 obtain⟨h0,h1,h2,h3,h4,h5⟩:=six_cells h
 rw [results_one hf,hp]
 simp [loadVar,go_sem,h0,h1,h2,h3,h4,h5]
theorem pname_any (s:ByteArray) (w:World):Calls Tryz.prog 90 #[.string s] w fun e w'=>e= .returned (.agg #[.int .i64 1, .string s, .int .i64 0, .int .i64 0])∧Below w.heap.size w w':=by
 have H:=xhd (heap_alloc_new w (.cells #[.int .i64 1, .string s, .int .i64 0, .int .i64 0] 95))
 go_enter Tryz.func90,Tryz.ntmps90
 go_wp2
 refine bodyPost_ret (word_res rfl rfl H.out) rfl ?_
 exact⟨rfl,(Below.refl _ w).alloc (Nat.le_refl _) _⟩
theorem pmark_any (s:ByteArray) (w:World):Calls Tryz.prog 92 #[.string s] w fun e w'=>e= .returned (.agg #[.int .i64 3, .string s, .int .i64 0, .int .i64 0])∧Below w.heap.size w w':=by
 have H:=xhd (heap_alloc_new w (.cells #[.int .i64 3, .string s, .int .i64 0, .int .i64 0] 95))
 go_enter Tryz.func92,Tryz.ntmps92
 go_wp2
 refine bodyPost_ret (word_res rfl rfl H.out) rfl ?_
 exact⟨rfl,(Below.refl _ w).alloc (Nat.le_refl _) _⟩
theorem pnum_any (n:Int) (w:World):Calls Tryz.prog 91 #[.int .i64 n] w fun e w'=>e= .returned (.agg #[.int .i64 2, .string ⟨#[]⟩, .int .i64 n, .int .i64 0])∧Below w.heap.size w w':=by
 have H:=xhd (heap_alloc_new w (.cells #[.int .i64 2, .string ⟨#[]⟩, .int .i64 n, .int .i64 0] 95))
 go_enter Tryz.func91,Tryz.ntmps91
 go_wp2
 refine bodyPost_ret (word_res rfl rfl H.out) rfl ?_
 exact⟨rfl,(Below.refl _ w).alloc (Nat.le_refl _) _⟩
theorem has_any (lo hi n:Int) (w:World):Calls Tryz.prog 112 #[.agg #[.int .i64 lo, .int .i64 hi], .int .i64 n] w fun e w'=>e= .returned (.bool (decide (lo≤n)&&decide (n≤hi)))∧Below w.heap.size w w':=by
 by_cases h:lo≤n
 ·rw [decide_eq_true h,Bool.true_and]
  go_enter Tryz.func112,Tryz.ntmps112
  go_wp2
  go_ret
  exact⟨rfl,(Below.refl _ w).alloc (Nat.le_refl _) _⟩
 ·rw [decide_eq_false h,Bool.false_and]
  go_enter Tryz.func112,Tryz.ntmps112
  go_wp2
  go_ret
  exact⟨rfl,(Below.refl _ w).alloc (Nat.le_refl _) _⟩
def ShapeP (k:Int) (w:World) (e:Ending) (w':World):Prop:=e= .returned (.agg (shC k))∧Below w.heap.size w w'
theorem shape_fin {k:Int} {w w':World} {c:Array Value} (hc:c=shC k) (hb:Below w.heap.size w w'):ShapeP k w (.returned (.agg c)) w':=⟨by rw [hc],hb⟩
theorem shape_facts (w:World) (u0 u1 u2 u3 u4 u5:Value) (v0 v1:Value):
  ((w.alloc (.cells #[u0,u1,u2,u3,u4,u5] 201)).alloc (.cells #[v0,v1] 149)).heap[w.heap.size]?=some (.cells #[u0,u1,u2,u3,u4,u5] 201 (0,0))∧
  Below w.heap.size w ((w.alloc (.cells #[u0,u1,u2,u3,u4,u5] 201)).alloc (.cells #[v0,v1] 149)):=
 ⟨(Below.heap_alloc _ _ _ (by simp)).trans (heap_alloc_new w _),((Below.refl _ w).alloc (Nat.le_refl _) _).alloc (by simp) _⟩
theorem shape_in (k:Int) (h0:1≤k) (h1:k≤11) (w:World):Calls Tryz.prog 148 #[.int .i64 k] w (ShapeP k w):=by
 have:k=1∨k=2∨k=3∨k=4∨k=5∨k=6∨k=7∨k=8∨k=9∨k=10∨k=11:=by omega
 rcases this with h|h|h|h|h|h|h|h|h|h|h<;>subst h<;>
 ·go_enter Tryz.func148,Tryz.ntmps148
  go_wp2
  refine bodyPost_ret (shape_res rfl rfl (shape_facts w _ _ _ _ _ _ _ _).1) rfl ?_
  exact shape_fin rfl (shape_facts w _ _ _ _ _ _ _ _).2
theorem shape_none {k:Int} (h:k < 1∨11 < k):shC k= #[.string ⟨#[]⟩, .int .i64 0, .int .i64 0, .int .i64 0, .int .i64 0, .int .i64 0]:=by
 have hn:nameR k=[]:=by
  unfold nameR
  split
  ·have:k=0:=by omega
   subst this
   rfl
  ·rfl
 have hl:limR k=(-1, -1):=by
  unfold limR
  rw [if_neg (by omega),if_neg (by omega),if_neg (by omega),if_neg (by omega)]
 have h5:¬k=5:=by omega
 simp only [shC,hn,shN,shA,shB,hl,if_neg h5]
 rfl
theorem shape_out (k:Int) (h:k < 1∨11 < k) (w:World):Calls Tryz.prog 148 #[.int .i64 k] w (ShapeP k w):=by
 have h1:(k == 1)=false:=by simp;omega
 have h2:(k == 2)=false:=by simp;omega
 have h3:(k == 3)=false:=by simp;omega
 have h4:(k == 4)=false:=by simp;omega
 have h5:(k == 5)=false:=by simp;omega
 have h6:(k == 6)=false:=by simp;omega
 have h7:(k == 7)=false:=by simp;omega
 have h8:(k == 8)=false:=by simp;omega
 have h9:(k == 9)=false:=by simp;omega
 have h10:(k == 10)=false:=by simp;omega
 have h11:(k == 11)=false:=by simp;omega
 have HN:=xhd (shape_none h)
 clear h
 go_enter Tryz.func148,Tryz.ntmps148
 go_wp2
 refine bodyPost_ret (shape_res rfl rfl (shape_facts w _ _ _ _ _ _ _ _).1) rfl ?_
 exact shape_fin HN.out.symm (shape_facts w _ _ _ _ _ _ _ _).2
theorem shape_any (k:Int) (w:World):Calls Tryz.prog 148 #[.int .i64 k] w fun e w'=>e= .returned (.agg (shC k))∧Below w.heap.size w w':=by
 by_cases h:1≤k∧k≤11
 ·exact shape_in k h.1 h.2 w
 ·exact shape_out k (by omega) w
theorem shape_field (s:ByteArray) (n a b c d:Int) (w:World):(Instr.field 201 (.agg #[.string s, .int .i64 n, .int .i64 a, .int .i64 b, .int .i64 c, .int .i64 d]) 0).run Tryz.prog w= .ok (.string s) w:=by kernel_rfl
theorem shape_let (k:Int):∃(s:ByteArray) (n lo hi lo2 hi2:Int),shC k= #[.string s, .int .i64 n, .int .i64 lo, .int .i64 hi, .int .i64 lo2, .int .i64 hi2]∧s.data.toList=nameR k∧n=shN k∧shA k=(lo,hi)∧shB k=(lo2,hi2):=
 ⟨_,_,_,_,_,_,rfl,rfl,rfl,rfl,rfl⟩
theorem pnm_any (k:Int) (w:World):Calls Tryz.prog 200 #[.int .i64 k] w fun e w'=>e= .returned (.string ⟨(nameR k).toArray⟩)∧Below w.heap.size w w':=by
 have h:=fun W=>shape_any k W
 obtain⟨s,n,lo,hi,lo2,hi2,e,hs, -⟩:=shape_let k
 have e2:(⟨(nameR k).toArray⟩:ByteArray)=s:=by rw [←hs]
 rw [e2]
 simp only [e] at h
 have H:=xhd h
 have hf:=fun W=>shape_field s n lo hi lo2 hi2 W
 clear h e hs e2
 go_enter Tryz.func200,Tryz.ntmps200
 go_wp2_with fail
 with_reducible refine (H.out _).mono ?_
 rintro e w1 ⟨rfl,hb⟩
 have HB:=xhd hb
 clear hb
 go_wp2
 go_ret
 exact⟨rfl,HB.out⟩
theorem may_shape (k a b:Int):opMay (k,a,b)=(!decide (nameR k=[])&&((decide ((shA k).1≤a)&&decide (a≤(shA k).2))&&(decide ((shB k).1≤b)&&decide (b≤(shB k).2)))):=by
 have ea:aMay (k,a,b)=(decide ((shA k).1≤a)&&decide (a≤(shA k).2)):=by
  unfold aMay shA
  simp only
  by_cases h:0≤(limR k).1
  ·rw [if_pos h,if_pos h]
  ·rw [if_neg h,if_neg h]
   rw [Bool.eq_iff_iff]
   simp
   omega
 have eb:bMay (k,a,b)=(decide ((shB k).1≤b)&&decide (b≤(shB k).2)):=by
  unfold bMay shB
  simp only
  by_cases h:k=5
  ·rw [if_pos h,if_pos h]
  ·rw [if_neg h,if_neg h]
   rw [Bool.eq_iff_iff]
   simp
   omega
 unfold opMay
 rw [ea,eb]
theorem two_boxes {w w1:World} {O S:Obj} (hb:Below (w.alloc O).heap.size (w.alloc O) w1):
  (w1.alloc S).heap[w.heap.size]?=some O∧(w1.alloc S).heap[w1.heap.size]?=some S∧Below w.heap.size w (w1.alloc S)∧w.heap.size < w1.heap.size:=by
 obtain⟨h1,h2⟩:=box_kept hb
 have hl:=lt_of_block h1
 exact⟨(Below.heap_alloc _ _ _ hl).trans h1,heap_alloc_new _ _,h2.alloc h2.size _,hl⟩
theorem mayop_any (k a b:Int) (w:World):Calls Tryz.prog 145 #[.agg #[.int .i64 k, .int .i64 a, .int .i64 b]] w fun e w'=>e= .returned (.bool (opMay (k,a,b)))∧Below w.heap.size w w':=by
 have h:=fun W=>shape_any k W
 rw [may_shape]
 obtain⟨s,n,lo,hi,lo2,hi2,e,hs, -,h1,h2⟩:=shape_let k
 rw [h1,h2, ←hs]
 simp only [e] at h
 have H:=xhd h
 have HA:=xhd (fun W=>has_any lo hi a W)
 have HB:=xhd (fun W=>has_any lo2 hi2 b W)
 simp only at HA HB ⊢
 obtain⟨q1,hq1⟩:∃q,(decide (lo≤a)&&decide (a≤hi))=q:=⟨_,rfl⟩
 obtain⟨q2,hq2⟩:∃q,(decide (lo2≤b)&&decide (b≤hi2))=q:=⟨_,rfl⟩
 rw [hq1] at HA ⊢
 rw [hq2] at HB ⊢
 clear h e h1 h2 hq1 hq2
 rw [←Lib.toList_data]
 by_cases he:s.toList=[]
 ·have q0:(s.toList == [])=true:=by rw [he];rfl
  have q3:s.toList.isEmpty=true:=by rw [he];rfl
  have ee:(!decide (s.toList=[])&&(q1&&q2))=false:=by simp [he]
  rw [ee]
  clear ee hs
  go_enter Tryz.func145,Tryz.ntmps145
  go_wp2_with fail
  with_reducible refine (H.out _).mono ?_
  rintro e w1 ⟨rfl,hb⟩
  have HX:=xhd (two_boxes (S:= .cells #[.string s, .int .i64 n, .int .i64 lo, .int .i64 hi, .int .i64 lo2, .int .i64 hi2] 201) hb)
  clear hb
  go_wp2
  go_ret
  exact⟨rfl,HX.out.2.2.1⟩
 ·have q0:(s.toList == [])=false:=by simpa using he
  have q3:s.toList.isEmpty=false:=by simpa using he
  have ee:(!decide (s.toList=[])&&(q1&&q2))=(q1&&q2):=by simp [he]
  rw [ee]
  clear ee hs
  cases q1 with
  |false=>
   rw [Bool.false_and]
   go_enter Tryz.func145,Tryz.ntmps145
   go_wp2_with fail
   with_reducible refine (H.out _).mono ?_
   rintro e w1 ⟨rfl,hb⟩
   have HX:=xhd (two_boxes (S:= .cells #[.string s, .int .i64 n, .int .i64 lo, .int .i64 hi, .int .i64 lo2, .int .i64 hi2] 201) hb)
   obtain⟨hx,_⟩:=box_kept hb
   obtain⟨c0,c1,c2⟩:=op_cells hx
   have hl:=HX.out.2.2.2
   clear hb hx
   go_wp2_with fail
   with_reducible refine (HA.out _).mono ?_
   rintro e w2 ⟨rfl,hb2⟩
   have HB2:=xhd (HX.out.2.2.1.trans (hb2.mono HX.out.2.2.1.size))
   clear hb2
   go_wp2
   go_ret
   exact⟨rfl,HB2.out⟩
  |true=>
   rw [Bool.true_and]
   go_enter Tryz.func145,Tryz.ntmps145
   go_wp2_with fail
   with_reducible refine (H.out _).mono ?_
   rintro e w1 ⟨rfl,hb⟩
   have HX:=xhd (two_boxes (S:= .cells #[.string s, .int .i64 n, .int .i64 lo, .int .i64 hi, .int .i64 lo2, .int .i64 hi2] 201) hb)
   obtain⟨hx,_⟩:=box_kept hb
   obtain⟨c0,c1,c2⟩:=op_cells hx
   have hl:=HX.out.2.2.2
   clear hb hx
   go_wp2_with fail
   with_reducible refine (HA.out _).mono ?_
   rintro e w2 ⟨rfl,hb2⟩
   have HB2:=xhd (HX.out.2.2.1.trans (hb2.mono HX.out.2.2.1.size))
   have hO:=(hb2.block _ (lt_of_block HX.out.1)).trans HX.out.1
   have hS:=(hb2.block _ (lt_of_block HX.out.2.1)).trans HX.out.2.1
   clear c0 c1 c2 hb2
   obtain⟨c0,c1,c2⟩:=op_cells hO
   obtain⟨d0,d1,d2,d3,d4,d5⟩:=six_cells hS
   clear hO hS
   go_wp2_with fail
   with_reducible refine (HB.out _).mono ?_
   rintro e w3 ⟨rfl,hb3⟩
   have HB3:=xhd (HB2.out.trans (hb3.mono HB2.out.size))
   clear hb3
   go_wp2
   go_ret
   exact⟨rfl,HB3.out⟩
theorem two_stored {w:World} {B:Nat} {a b a' b':Value} {t:TypeId} (h:w.heap[B]?=some (.cells #[a,b] t (0,0))):
  ((w.setCell ⟨B,0,none⟩ a').setCell ⟨B,1,none⟩ b').heap[B]?=some (.cells #[a',b'] t (0,0)):=by
 rw [heap_setCell_same _ _ _ _ _ _ (heap_setCell_same _ _ _ _ _ _ h)]
 rfl
theorem results_prg {fn:Func} {p u v:Tmp} {ty:TypeId} (h:fn.results= #[.cell p ty, .tmp u, .tmp v]) (tmps:Array Value) (P:Program) (w:World):
  (results fn tmps).run P w=
    ((asAddr (tmps.getD p undef)).run P w).andThen fun a w₁=>((loadVar ty a).run P w₁).andThen fun x w₂=> .ok (.tuple #[x,tmps.getD u undef,tmps.getD v undef]) w₂:=by
 simp only [results,h]
 simp [Sem.run_bind,Result.andThen]
theorem prg_result2 {fn:Func} {p u v:Tmp} (hf:fn.results= #[.cell p 49, .tmp u, .tmp v]) {tmps:Array Value} {w:World} {B:Nat} {a b x y:Value} (hp:tmps.getD p undef= .pointer (some ⟨B,0,none⟩)) (hu:tmps.getD u undef=x) (hv:tmps.getD v undef=y) (h:w.heap[B]?=some (.cells #[a,b] 49 (0,0))):
  (results fn tmps).run Tryz.prog w= .ok (.tuple #[.agg #[a,b],x,y]) w:=by
 obtain⟨h0,h1⟩:=two_cells h
 rw [results_prg hf,hp,hu,hv]
 simp [loadVar,go_sem,h0,h1]
theorem not_frozen {w:World} {B:Nat} {a:Array Value} {t:TypeId} (h:w.heap[B]?=some (.cells a t (0,0))) (o:Nat):w.frozen? ⟨B,o,none⟩=false:=by
 simp [World.frozen?,h]
def ParseP (R:Prg×Int×Int) (w:World) (e:Ending) (w':World):Prop:=
 ∃v,e= .returned (.tuple #[.agg #[.bool R.1.1,v], .int .i64 R.2.1, .int .i64 R.2.2])∧ORow w.heap.size w' v R.1.2∧Below w.heap.size w w'
theorem parse_bad {R:Prg×Int×Int} {x y:Int} (h:R=((false,[]),x,y)) {w w':World} (hb:Below w.heap.size w w'):ParseP R w (.returned (.tuple #[.agg #[.bool false, .slice none 0 0], .int .i64 x, .int .i64 y])) w':=by
 subst h
 exact⟨_,rfl,World.ownsRow_nil _ _ _ _,hb⟩
theorem parse_good {R:Prg×Int×Int} {f:Bool} {ops:List Opn} {x:Int} (h:R=((f,ops),x,0)) {w w':World} {v:Value} (hr:ORow w.heap.size w' v ops) (hb:Below w.heap.size w w'):ParseP R w (.returned (.tuple #[.agg #[.bool f,v], .int .i64 x, .int .i64 0])) w':=by
 subst h
 exact⟨_,rfl,hr,hb⟩
def tailP (f:Bool):Except Bad (List Opn×Nat)→Prg×Int×Int
 | .error e=>((false,[]),e.1,e.2)
 | .ok (ops,n)=>((f,ops),n,0)
theorem parse_out {L:List Wd} {at_:Int} (h:at_ < 0∨(L.length:Int) < at_):parseR L at_=((false,[]),0,5):=by
 unfold parseR;rw [if_pos h]
theorem parse_prog {L:List Wd} {a:Nat} (h:a≤L.length) (h1:isR L a 1 progB=false):parseR L a=((false,[]),(a:Int),5):=by
 unfold parseR;rw [if_neg (by omega),Int.toNat_natCast,h1];rfl
theorem parse_open {L:List Wd} {a a1:Nat} {f:Bool} (h:a≤L.length) (h1:isR L a 1 progB=true) (ho:openR L (a+1)=(f,a1)) (h2:isR L a1 3 [123]=false):parseR L a=((false,[]),(a1:Int),5):=by
 unfold parseR;rw [if_neg (by omega),Int.toNat_natCast,h1,ho]
 simp only [h2];rfl
theorem parse_ops {L:List Wd} {a a1:Nat} {f:Bool} (h:a≤L.length) (h1:isR L a 1 progB=true) (ho:openR L (a+1)=(f,a1)) (h2:isR L a1 3 [123]=true):parseR L a=tailP f (opsR L 13 (a1+1) []):=by
 unfold parseR;rw [if_neg (by omega),Int.toNat_natCast,h1,ho]
 simp only [h2]
 simp only [Bool.not_true,Bool.false_eq_true,if_false]
 cases opsR L 13 (a1+1) []<;>rfl
theorem is_lt {L:List Wd} {a:Nat} {k:Int} {t:List By} (h:isR L a k t=true):a < L.length:=by
 unfold isR at h
 split at h
 ·next e=>exact (List.getElem?_eq_some_iff.1 e).1
 ·cases h
theorem is_empty {L:List Wd} {a:Nat} {k:Int} {t:List By} (h:L.length≤a):isR L a k t=false:=by
 unfold isR;rw [List.getElem?_eq_none h]
theorem ops_end {L:List Wd} {a:Nat} {ops:List Opn} (hl:ops.length≤12) (h:isR L a 3 [125]=true):opsR L (13 - ops.length) a ops=if ops=[] then .error (a,4) else .ok (ops,a+1):=by
 rw [show 13 - ops.length=(12 - ops.length)+1 by omega,opsR,if_pos h]
theorem ops_none {L:List Wd} {a:Nat} {ops:List Opn} (hl:ops.length≤12) (h:isR L a 3 [125]=false) (hk:kindR L a=0):opsR L (13 - ops.length) a ops= .error (a,5):=by
 rw [show 13 - ops.length=(12 - ops.length)+1 by omega,opsR,if_neg (by simp [h]),if_pos hk]
theorem ops_long {L:List Wd} {a:Nat} {ops:List Opn} (hl:ops.length=12) (h:isR L a 3 [125]=false) (hk:¬kindR L a=0):opsR L (13 - ops.length) a ops= .error (a,6):=by
 rw [show 13 - ops.length=(12 - ops.length)+1 by omega,opsR,if_neg (by simp [h]),if_neg hk,if_pos hl]
theorem ops_fail {L:List Wd} {a:Nat} {ops:List Opn} (hl:ops.length < 12) (h:isR L a 3 [125]=false) (hk:¬kindR L a=0) {e:Bad} (ho:opR L (a+1) (kindR L a)= .error e):opsR L (13 - ops.length) a ops= .error e:=by
 rw [show 13 - ops.length=(12 - ops.length)+1 by omega,opsR,if_neg (by simp [h]),if_neg hk,if_neg (by omega),ho]
theorem ops_more {L:List Wd} {a a2:Nat} {ops:List Opn} {o:Opn} (hl:ops.length < 12) (h:isR L a 3 [125]=false) (hk:¬kindR L a=0) (ho:opR L (a+1) (kindR L a)= .ok (o,a2)):opsR L (13 - ops.length) a ops=opsR L (13 - (ops++[o]).length) a2 (ops++[o]):=by
 rw [show 13 - ops.length=(12 - ops.length)+1 by omega,opsR,if_neg (by simp [h]),if_neg hk,if_neg (by omega),ho]
 simp only [List.length_append,List.length_singleton]
 rw [show 13 - (ops.length+1)=12 - ops.length by omega]
theorem op_arg1 {L:List Wd} {a:Nat} {k:Int} {e:Bad} (h:arg1R L a k= .error e):opR L a k= .error e:=by unfold opR;rw [h]
theorem op_arg2 {L:List Wd} {a a1:Nat} {k x:Int} {e:Bad} (h:arg1R L a k= .ok (x,a1)) (h2:arg2R L a1 k= .error e):opR L a k= .error e:=by
 unfold opR;rw [h];simp only [h2]
theorem op_semi {L:List Wd} {a a1 a2:Nat} {k x y:Int} (h:arg1R L a k= .ok (x,a1)) (h2:arg2R L a1 k= .ok (y,a2)) (h3:isR L a2 3 [59]=false):opR L a k= .error (a2,5):=by
 unfold opR;rw [h];simp only [h2,h3];rfl
theorem op_done {L:List Wd} {a a1 a2:Nat} {k x y:Int} (h:arg1R L a k= .ok (x,a1)) (h2:arg2R L a1 k= .ok (y,a2)) (h3:isR L a2 3 [59]=true):opR L a k= .ok ((k,x,y),a2+1):=by
 unfold opR;rw [h];simp only [h2,h3];rfl
theorem arg_none {L:List Wd} {a:Nat} {lo hi:Int} (h:L.length≤a):argR L a lo hi= .error (a,5):=by
 unfold argR;rw [List.getElem?_eq_none h]
theorem arg_kind {L:List Wd} {a:Nat} {lo hi:Int} (h:a < L.length) (hk:¬L[a].1=2):argR L a lo hi= .error (a,5):=by
 unfold argR;rw [List.getElem?_eq_getElem h];simp only;rw [if_neg hk]
theorem arg_range {L:List Wd} {a:Nat} {lo hi:Int} (h:a < L.length) (hk:L[a].1=2) (hr:L[a].2.2.1 < lo∨hi < L[a].2.2.1):argR L a lo hi= .error (a,1):=by
 unfold argR;rw [List.getElem?_eq_getElem h];simp only;rw [if_pos hk,if_pos hr]
theorem arg_ok {L:List Wd} {a:Nat} {lo hi:Int} (h:a < L.length) (hk:L[a].1=2) (hr:¬(L[a].2.2.1 < lo∨hi < L[a].2.2.1)):argR L a lo hi= .ok (L[a].2.2.1,a+1):=by
 unfold argR;rw [List.getElem?_eq_getElem h];simp only;rw [if_pos hk,if_neg hr]
abbrev zeroP:Obj:= .cells #[.bool false, .slice none 0 0] 49
theorem start_facts (w:World) (f:Bool):
  ((w.alloc zeroP).alloc (.cells #[.bool f, .slice none 0 0] 49)).heap[w.heap.size]?=some zeroP
  ∧((w.alloc zeroP).alloc (.cells #[.bool f, .slice none 0 0] 49)).heap[w.heap.size+1]?=some (.cells #[.bool f, .slice none 0 0] 49)
  ∧Below w.heap.size w ((w.alloc zeroP).alloc (.cells #[.bool f, .slice none 0 0] 49))
  ∧((w.alloc zeroP).alloc (.cells #[.bool f, .slice none 0 0] 49)).heap.size=w.heap.size+2:=by
 refine⟨(Below.heap_alloc _ _ _ (by simp)).trans (heap_alloc_new w _),?_,((Below.refl _ w).alloc (Nat.le_refl _) _).alloc (by simp) _,by simp⟩
 have h:=heap_alloc_new (w.alloc zeroP) (.cells #[.bool f, .slice none 0 0] 49)
 rw [show (w.alloc zeroP).heap.size=w.heap.size+1 by simp] at h
 exact h
structure PInv (L:List Wd) (n:Nat) (f:Bool) (R:Prg×Int×Int) (w wr:World) (c:Nat) (ops:List Opn) (v:Value):Prop where
 len:ops.length≤12
 ans:R=tailP f (opsR L (13 - ops.length) c ops)
 res:wr.heap[w.heap.size]?=some zeroP
 prg:wr.heap[w.heap.size+1]?=some (.cells #[.bool f,v] 49)
 row:ORow (w.heap.size+2) wr v ops
 bel:Below w.heap.size w wr
 siz:w.heap.size+2≤wr.heap.size
theorem PInv.start {L:List Wd} {n:Nat} {f:Bool} {R:Prg×Int×Int} {w:World} {c:Nat} (h:R=tailP f (opsR L 13 c [])):
  PInv L n f R w ((w.alloc zeroP).alloc (.cells #[.bool f, .slice none 0 0] 49)) c [] (.slice none 0 0):=by
 obtain⟨h1,h2,h3,h4⟩:=start_facts w f
 exact⟨by simp,h,h1,h2,World.ownsRow_nil _ _ _ _,h3,by omega⟩
theorem PInv.more {L:List Wd} {n:Nat} {f:Bool} {R:Prg×Int×Int} {w wr wr':World} {c:Nat} {ops:List Opn} {v:Value} (h:PInv L n f R w wr c ops v) (hb:Below wr.heap.size wr wr'):
  PInv L n f R w wr' c ops v:=
 ⟨h.len,h.ans,(hb.block _ (by have:=h.siz;omega)).trans h.res,(hb.block _ (by have:=h.siz;omega)).trans h.prg,row_below h.row hb,h.bel.trans (hb.mono (by have:=h.siz;omega)),by have:=h.siz;have:=hb.size;omega⟩
theorem row_base {w:World} {base base':Nat} {e:TypeId} {size:Nat} {v:Value} {n:Nat} {xs:List Value} (h:w.ownsRow base e size v n xs) (hb:base'≤base):w.ownsRow base' e size v n xs:=by
 refine⟨h.1,?_⟩
 rcases h.2 with h2|⟨g,cap,cur,rfl,hg,rest⟩
 ·exact .inl h2
 ·exact .inr ⟨g,cap,cur,rfl,Nat.le_trans hb hg,rest⟩
theorem row_same {w w':World} {base:Nat} {e:TypeId} {size:Nat} {v:Value} {n:Nat} {xs:List Value} (h:w.ownsRow base e size v n xs)
  (hs:∀k,base≤k→k < w.heap.size→w'.heap[k]?=w.heap[k]?):w'.ownsRow base e size v n xs:=by
 refine⟨h.1,?_⟩
 rcases h.2 with h2|⟨g,cap,cur,rfl,hb,hg,rest⟩
 ·exact .inl h2
 ·exact .inr ⟨g,cap,cur,rfl,hb,(hs g hb (lt_of_block hg)).trans hg,rest⟩
theorem PInv.ended {L:List Wd} {n:Nat} {f:Bool} {R:Prg×Int×Int} {w wr:World} {c:Nat} {ops:List Opn} {v:Value} (h:PInv L n f R w wr c ops v) (x y:Value):
  ((wr.setCell ⟨w.heap.size,0,none⟩ x).setCell ⟨w.heap.size,1,none⟩ y).heap[w.heap.size]?=some (.cells #[x,y] 49 (0,0))
  ∧Below w.heap.size w ((wr.setCell ⟨w.heap.size,0,none⟩ x).setCell ⟨w.heap.size,1,none⟩ y)
  ∧ORow w.heap.size ((wr.setCell ⟨w.heap.size,0,none⟩ x).setCell ⟨w.heap.size,1,none⟩ y) v ops:=by
 refine⟨two_stored h.res,(h.bel.setCell (Nat.le_refl _) _).setCell (Nat.le_refl _) _,row_base (row_same h.row fun k hk _=>?_) (Nat.le_add_right _ 2)⟩
 exact (Below.heap_setCell _ _ _ _ (by simp;omega)).trans (Below.heap_setCell _ _ _ _ (by simp;omega))
theorem PInv.push {L:List Wd} {n:Nat} {f:Bool} {R:Prg×Int×Int} {w wx w4:World} {c c':Nat} {ops:List Opn} {o:Opn} {v v':Value} (h:PInv L n f R w wx c ops v)
  (hown:ORow (w.heap.size+2) w4 v' (ops++[o])) (hg:wx.grownBy w4 v.ownBlock) (hR:R=tailP f (opsR L (13 - (ops++[o]).length) c' (ops++[o]))) (hl:ops.length < 12):
  PInv L n f R w (w4.setCell ⟨w.heap.size+1,1,none⟩ v') c' (ops++[o]) v':=by
 have hb:Below (w.heap.size+2) wx w4:=app_below (Below.refl _ _) h.siz (Nat.le_refl _) h.row hg
 have hs4:w.heap.size+2≤w4.heap.size:=Nat.le_trans h.siz hb.size
 refine⟨by simp;omega,hR,?_,?_,row_same hown fun k hk _=>Below.heap_setCell _ _ _ _ (by simp;omega),(h.bel.trans (hb.mono (by omega))).setCell (by simp) _,by simp;omega⟩
 ·exact (Below.heap_setCell _ _ _ _ (by simp)).trans ((hb.block _ (by omega)).trans h.res)
 ·rw [heap_setCell_same _ _ _ _ _ _ ((hb.block _ (by omega)).trans h.prg)]
  rfl
structure AInv (L:List Wd) (c:Nat) (K lo hi:Int) (wk wr:World) (q:Nat) (x y:Int) (d:Nat) (lo' hi':Int):Prop where
 cell:wr.heap[wk.heap.size]?=some (.cells #[.int .i64 K, .int .i64 x, .int .i64 y] 142 (0,0))
 bel:Below wk.heap.size wk wr
 st:(q=0∧d=c+1∧x=0∧y=0∧lo'=lo∧hi'=hi)∨(q=1∧arg1R L (c+1) K= .ok (x,d)∧y=0)∨(q=2∧∃d1,arg1R L (c+1) K= .ok (x,d1)∧arg2R L d1 K= .ok (y,d))
theorem op_stored1 {w:World} {B:Nat} {a b c b':Value} {t:TypeId} (h:w.heap[B]?=some (.cells #[a,b,c] t (0,0))):
  (w.setCell ⟨B,1,none⟩ b').heap[B]?=some (.cells #[a,b',c] t (0,0)):=by
 rw [heap_setCell_same _ _ _ _ _ _ h]
 rfl
theorem op_stored2 {w:World} {B:Nat} {a b c c':Value} {t:TypeId} (h:w.heap[B]?=some (.cells #[a,b,c] t (0,0))):
  (w.setCell ⟨B,2,none⟩ c').heap[B]?=some (.cells #[a,b,c'] t (0,0)):=by
 rw [heap_setCell_same _ _ _ _ _ _ h]
 rfl
theorem kind_yes {L:List Wd} {c j:Nat} (hj:1≤j) (h:isR L c 1 (nameR (j:Int))=true):kindUp L c j=j:=by
 obtain⟨i,rfl⟩:∃i,j=i+1:=⟨j - 1,by omega⟩
 rw [kindUp,if_pos h]
theorem kind_no {L:List Wd} {c j:Nat} (hj:1≤j) (h:isR L c 1 (nameR (j:Int))=false):kindUp L c j=kindUp L c (j - 1):=by
 obtain⟨i,rfl⟩:∃i,j=i+1:=⟨j - 1,by omega⟩
 rw [kindUp,if_neg (by rw [h];exact Bool.false_ne_true),Nat.add_sub_cancel]
theorem arg1_skip {L:List Wd} {c:Nat} {K lo hi:Int} (hl:limR K=(lo,hi)) (h:lo < 0):arg1R L c K= .ok (0,c):=by
 unfold arg1R;rw [hl];simp [h]
theorem arg1_arg {L:List Wd} {c:Nat} {K lo hi:Int} (hl:limR K=(lo,hi)) (h:¬lo < 0):arg1R L c K=argR L c lo hi:=by
 unfold arg1R;rw [hl];simp [h]
theorem arg2_skip {L:List Wd} {c:Nat} {K:Int} (h:¬K=5):arg2R L c K= .ok (0,c):=by unfold arg2R;rw [if_neg h]
theorem arg2_arg {L:List Wd} {c:Nat} {K:Int} (h:K=5):arg2R L c K=argR L c 1 64:=by unfold arg2R;rw [if_pos h]
theorem arg_le {L:List Wd} {c d:Nat} {lo hi x:Int} (h:argR L c lo hi= .ok (x,d)):d≤L.length:=by
 unfold argR at h
 split at h
 ·next e=>
  have:=(List.getElem?_eq_some_iff.1 e).1
  split at h
  ·split at h
   ·cases h
   ·simp only [Except.ok.injEq,Prod.mk.injEq] at h
    omega
  ·cases h
 ·cases h
theorem ans_fail {L:List Wd} {n:Nat} {f:Bool} {R:Prg×Int×Int} {w wr:World} {c:Nat} {ops:List Opn} {v:Value} {e:Bad} (h:PInv L n f R w wr c ops v)
  (hl:ops.length < 12) (h1:isR L c 3 [125]=false) (hk:¬kindR L c=0) (ho:opR L (c+1) (kindR L c)= .error e):R=((false,[]),(e.1:Int),e.2):=
 h.ans.trans (by rw [ops_fail hl h1 hk ho];rfl)
theorem kind_lt {L:List Wd} {c:Nat} :∀n,¬kindUp L c n=0→c < L.length
 |0,h=>absurd rfl h
 |n+1,h=>by
  rw [kindUp] at h
  split at h
  ·next e=>exact is_lt e
  ·exact kind_lt n h
theorem AInv.start {L:List Wd} {c:Nat} {K lo hi:Int} (wk:World):AInv L c K lo hi wk (wk.alloc (.cells #[.int .i64 K, .int .i64 0, .int .i64 0] 142)) 0 0 0 (c+1) lo hi:=
 ⟨heap_alloc_new wk _,(Below.refl _ wk).alloc (Nat.le_refl _) _, .inl ⟨rfl,rfl,rfl,rfl,rfl,rfl⟩⟩
theorem PInv.grown {L:List Wd} {n:Nat} {f:Bool} {R:Prg×Int×Int} {w wx w4:World} {c:Nat} {ops:List Opn} {v:Value} (h:PInv L n f R w wx c ops v) (hg:wx.grownBy w4 v.ownBlock):
  w4.heap[w.heap.size+1]?=some (.cells #[.bool f,v] 49 (0,0)):=by
 have hb:Below (w.heap.size+2) wx w4:=app_below (Below.refl _ _) h.siz (Nat.le_refl _) h.row hg
 exact (hb.block _ (by omega)).trans h.prg
theorem op_new (W:World) (a b c:Value) (t:TypeId):∀(j:Nat) (u:Value),[a,b,c][j]?=some u→(W.alloc (.cells #[a,b,c] t)).cell? ((⟨W.heap.size,0,none⟩:Addr).add j)=some u:=by
 intro j u hj
 rw [Addr.add_lit]
 match j,hj with
 |0,hj=>simp at hj;subst hj;simp
 |1,hj=>simp at hj;subst hj;simp
 |2,hj=>simp at hj;subst hj;simp
def nextR (L:List Wd) (c:Nat):Wd:=match L[c]? with
 |some x=>(x.1,x.2.1,x.2.2.1,0)
 |none=>(0,[],0,0)
abbrev rdC (ao:Option Addr) (n cap:Nat) (c:Nat) (e:Int):Array Value:= #[.slice ao n cap, .int .i64 c, .int .i64 e]
structure RdI (w:World) (b:Nat) (ao:Option Addr) (bw off cap:Nat) (L:List Wd) (c:Nat) (e:Int):Prop where
 rd:w.heap[b]?=some (.cells (rdC ao L.length cap c e) 116 (0,0))
 ws:WArg w ao bw off L
 ne:0 < L.length→bw≠b
 le:c≤L.length
 len:L.length≤100000
theorem WArg.same {w w':World} {ao:Option Addr} {b off:Nat} {L:List Wd} (h:WArg w ao b off L) (hs:0 < L.length→w'.heap[b]?=w.heap[b]?):WArg w' ao b off L:=by
 have hlt:0 < L.length→b < w'.heap.size:=fun h0=>by
  have h1:=hs h0
  rw [Array.getElem?_eq_getElem (h.at_ h0).2] at h1
  exact lt_of_block h1
 refine⟨fun h0=>⟨(h.at_ h0).1,hlt h0⟩,fun i hi=>?_⟩
 obtain⟨h0,h1,h2,h3⟩:=h.cells i hi
 have e:w'.heap[b]?=w.heap[b]?:=hs (by omega)
 have ec:∀o,w'.cell? ⟨b,o,none⟩=w.cell? ⟨b,o,none⟩:=fun o=>by simp only [World.cell?,e]
 exact⟨(ec _).trans h0,(ec _).trans h1,(ec _).trans h2,(ec _).trans h3⟩
theorem RdI.turned {w w':World} {b:Nat} {ao:Option Addr} {bw off cap:Nat} {L:List Wd} {c c':Nat} {e e':Int} (h:RdI w b ao bw off cap L c e) (t:Turned [b] w w')
  (hr:w'.heap[b]?=some (.cells (rdC ao L.length cap c' e') 116 (0,0))) (hc:c'≤L.length):RdI w' b ao bw off cap L c' e':=
 ⟨hr,h.ws.same (fun h0=>t.block bw (h.ws.at_ h0).2 (by simpa using h.ne h0)),h.ne,hc,h.len⟩
theorem RdI.below {w w':World} {b:Nat} {ao:Option Addr} {bw off cap:Nat} {L:List Wd} {c:Nat} {e:Int} (h:RdI w b ao bw off cap L c e) (t:Below w.heap.size w w'):RdI w' b ao bw off cap L c e:=
 ⟨(t.block _ (lt_of_block h.rd)).trans h.rd,h.ws.below t,h.ne,h.le,h.len⟩
theorem turned_below {w w':World} (h:Below w.heap.size w w') (X:List Nat):Turned X w w':=⟨h.os,h.tape,h.output,h.size,fun k hk _=>h.block k hk⟩
theorem three_cells {w:World} {B:Nat} {a b c:Value} {t:TypeId} (h:w.heap[B]?=some (.cells #[a,b,c] t (0,0))):
 w.cell? ⟨B,0,none⟩=some a∧w.cell? ⟨B,1,none⟩=some b∧w.cell? ⟨B,2,none⟩=some c:=op_cells h
theorem next_at {L:List Wd} {c:Nat} (h:c < L.length):nextR L c=(L[c].1,L[c].2.1,L[c].2.2.1,0):=by
 unfold nextR;rw [List.getElem?_eq_getElem h]
theorem next_end {L:List Wd} {c:Nat} (h:L.length≤c):nextR L c=(0,[],0,0):=by
 unfold nextR;rw [List.getElem?_eq_none h]
theorem ends_any {w:World} {b:Nat} {ao:Option Addr} {bw off cap:Nat} {L:List Wd} {c:Nat} {e:Int} (h:RdI w b ao bw off cap L c e):
  Calls Tryz.prog 135 #[.pointer (some ⟨b,0,none⟩)] w fun r w'=>r= .returned (.bool (decide (L.length≤c)))∧∃k,w'=w.drewN k:=by
 obtain⟨d0,d1,d2⟩:=three_cells h.rd
 obtain⟨n,hn⟩:∃n,L.length=n:=⟨_,rfl⟩
 rw [hn] at d0 ⊢
 clear h hn
 by_cases hc:n≤c
 ·have hg:(n:Int)≤c:=by omega
  have hg2:decide ((n:Int)≤c)=true:=by simp;omega
  have hg3:decide (n≤c)=true:=by simp;omega
  rw [hg3]
  go_enter Tryz.func135,Tryz.ntmps135
  go_wp2_with fail
  go_quiet (fail)
  go_wp2
  go_ret
  exact⟨rfl,_,rfl⟩
 ·have hg:¬(n:Int)≤c:=by omega
  have hg2:decide ((n:Int)≤c)=false:=by simp;omega
  have hg3:decide (n≤c)=false:=by simp;omega
  rw [hg3]
  go_enter Tryz.func135,Tryz.ntmps135
  go_wp2_with fail
  go_quiet (fail)
  go_wp2
  go_ret
  exact⟨rfl,_,rfl⟩
theorem next_any {w:World} {b:Nat} {ao:Option Addr} {bw off cap:Nat} {L:List Wd} {c:Nat} {e:Int} (h:RdI w b ao bw off cap L c e):
  Calls Tryz.prog 137 #[.pointer (some ⟨b,0,none⟩)] w fun r w'=>r= .returned (wdV (nextR L c))∧Below w.heap.size w w':=by
 obtain⟨d0,d1,d2⟩:=three_cells h.rd
 have hbl:=lt_of_block h.rd
 obtain⟨n,hn⟩:∃n,L.length=n:=⟨_,rfl⟩
 have hle:=h.le
 have hm:=h.len
 have HN:=xhd hn
 rw [hn] at d0 hle hm
 have H0:=xhd (heap_alloc_new w zeroW)
 have he:=ends_any (h.below ((Below.refl _ w).alloc (Nat.le_refl _) zeroW))
 rw [hn] at he
 by_cases hlt:c < n
 ·have hlt':c < L.length:=by rw [HN.out];exact hlt
  have hx:=next_at hlt'
  obtain⟨rfl,hbwl⟩:=h.ws.at_ (by omega)
  obtain⟨x0,x1,x2,x3⟩:=h.ws.cells c hlt'
  obtain⟨⟨k1,t1,m,p⟩,hxx⟩:∃x,L[c]=x:=⟨_,rfl⟩
  rw [hxx] at x0 x1 x2 x3 hx
  rw [hx]
  simp only at x0 x1 x2 x3
  obtain⟨tb,htb⟩:∃tb:ByteArray,⟨t1.toArray⟩=tb:=⟨_,rfl⟩
  unfold wdV
  simp only [htb] at x1 ⊢
  have hg:¬(n:Int)≤c:=by omega
  have hg2:decide ((n:Int)≤c)=false:=by simp;omega
  have hg3:decide (n≤c)=false:=by simp;omega
  rw [hg3] at he
  have HE:=xhd he
  clear he
  have HS:Hid (∀V,Below w.heap.size w V→(V.cell? ⟨b,0,none⟩=some (.slice (some ⟨bw,off,none⟩) n cap)∧V.cell? ⟨b,1,none⟩=some (.int .i64 c)∧V.cell? ⟨bw,off+c*4,none⟩=some (.int .i64 k1)∧V.cell? ⟨bw,off+c*4+1,none⟩=some (.string tb)∧V.cell? ⟨bw,off+c*4+2,none⟩=some (.int .i64 m)∧V.cell? ⟨bw,off+c*4+3,none⟩=some (.int .i64 p))):=xhd fun V hV=>by
   have e1:∀o,V.cell? ⟨b,o,none⟩=w.cell? ⟨b,o,none⟩:=fun o=>hV.cell (p:=⟨b,o,none⟩) hbl
   have e2:∀o,V.cell? ⟨bw,o,none⟩=w.cell? ⟨bw,o,none⟩:=fun o=>hV.cell (p:=⟨bw,o,none⟩) hbwl
   exact⟨(e1 _).trans d0,(e1 _).trans d1,(e2 _).trans x0,(e2 _).trans x1,(e2 _).trans x2,(e2 _).trans x3⟩
  clear hn hx hxx h htb
  go_enter Tryz.func137,Tryz.ntmps137
  go_wp2_with fail
  with_reducible refine HE.out.mono ?_
  rintro r _ ⟨rfl,nq,rfl⟩
  go_wp2_with fail
  obtain⟨V,hV⟩:∃V,(w.alloc zeroW).drewN nq=V:=⟨_,rfl⟩
  have hVz:V.heap[w.heap.size]?=some zeroW:=by rw [←hV];exact H0.out
  have hVb:Below w.heap.size w V:=by rw [←hV];exact below_drewN ((Below.refl _ w).alloc (Nat.le_refl _) _) _
  rw [hV]
  clear hV d1 d2 d0 x0 x1 x2 x3
  have HZ:=xhd hVz
  have HV:=xhd hVb
  clear hVz hVb
  go_region_held3 (fun V=>V.cell? ⟨b,0,none⟩=some (.slice (some ⟨bw,off,none⟩) n cap)∧V.cell? ⟨b,1,none⟩=some (.int .i64 c)∧V.cell? ⟨bw,off+c*4,none⟩=some (.int .i64 k1)∧V.cell? ⟨bw,off+c*4+1,none⟩=some (.string tb)∧V.cell? ⟨bw,off+c*4+2,none⟩=some (.int .i64 m)∧V.cell? ⟨bw,off+c*4+3,none⟩=some (.int .i64 p))
   (first|exact HS.out _ HV.out.drew|exact HS.out _ (HV.out.drew.alloc (by have:=HV.out.size;simpa using this) _) |trace_state)
   (fail)
  obtain⟨V2,hV2⟩:∃V2,(V.alloc (.cells #[.int .i64 k1, .string tb, .int .i64 m, .int .i64 p] 95)).drew=V2:=⟨_,rfl⟩
  have hA:V2.heap[w.heap.size]?=some zeroW:=by rw [←hV2];exact (Below.heap_alloc _ _ _ (lt_of_block HZ.out)).trans HZ.out
  have hB:V2.heap[V.heap.size]?=some (.cells #[.int .i64 k1, .string tb, .int .i64 m, .int .i64 p] 95 (0,0)):=by rw [←hV2];exact heap_alloc_new _ _
  have hBl:Below w.heap.size w V2:=by rw [←hV2];exact (HV.out.alloc HV.out.size _).drew
  have hlt2:w.heap.size < V.heap.size:=lt_of_block HZ.out
  obtain⟨B,hBe⟩:∃B,V.heap.size=B:=⟨_,rfl⟩
  rw [hBe] at hB hlt2 ⊢
  rw [hV2]
  obtain⟨a0,a1,a2,a3⟩:=word_cells hA
  obtain⟨b0,b1,b2,b3⟩:=word_cells hB
  have fa0:=not_frozen hA 0
  have fa1:=not_frozen hA 1
  have fa2:=not_frozen hA 2
  have fa3:=not_frozen hA 3
  have fb3:=not_frozen hB 3
  have ne1:w.heap.size≠B:=by omega
  have ne2:B≠w.heap.size:=by omega
  have HAA:=xhd hA
  have HBB:=xhd hBl
  clear hV2 hBe HZ HV hA hB hBl
  go_wp2
  have hA2:(V2.setCell ⟨B,3,none⟩ (.int .i64 0)).heap[w.heap.size]?=some zeroW:=(Below.heap_setCell _ _ _ _ ne1).trans HAA.out
  refine bodyPost_ret (word_res rfl rfl (word_stored hA2)) rfl ?_
  exact⟨rfl,word_below (HBB.out.setCell (by show w.heap.size≤B;omega) _) (Nat.le_refl _) _ _ _ _⟩
 ·have hge:n≤c:=by omega
  rw [next_end (by rw [HN.out];exact hge)]
  have hg:(n:Int)≤c:=by omega
  have hg2:decide ((n:Int)≤c)=true:=by simp;omega
  have hg3:decide (n≤c)=true:=by simp;omega
  rw [hg3] at he
  have HE:=xhd he
  clear hn h he
  go_enter Tryz.func137,Tryz.ntmps137
  go_wp2_with fail
  with_reducible refine HE.out.mono ?_
  rintro r _ ⟨rfl,nq,rfl⟩
  go_wp2
  have hA2:((w.alloc zeroW).drewN nq).heap[w.heap.size]?=some zeroW:=H0.out
  refine bodyPost_ret (word_res rfl rfl (word_stored hA2)) rfl ?_
  exact⟨rfl,word_below (below_drewN ((Below.refl _ w).alloc (Nat.le_refl _) _) _) (Nat.le_refl _) _ _ _ _⟩
end Go.Proofs.YtbnhnnccioljhaaGreatDoor
