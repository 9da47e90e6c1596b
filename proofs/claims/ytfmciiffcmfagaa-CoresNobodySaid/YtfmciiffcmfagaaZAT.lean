/-
  What nil cores of the program answer.
-/
import Derived.Test.YtfmciiffcmfagaaZAH
import Derived.Test.YtfmciiffcmfagaaZAS
import Derived.Test.YtfmciiffcmfagaaZAl
set_option maxRecDepth 100000
set_option maxHeartbeats 25600000
namespace Go.Proofs.Ytfmciiffcmfagaa
open Go.RowKit
attribute [local go_sem] Oper.semAt_some
theorem cpNil_len (w:World):Calls Try.prog 7 #[.pointer none] w fun r w'=>r= .returned (.int .i64 0)∧w=w':=by
 go_enter Try.func7,Try.ntmps7
 go_wp2
 go_ret
 exact⟨rfl,rfl⟩
theorem cpNil_queue (core:Int) (w:World):Calls Try.prog 17 #[.pointer none, .int .i64 core] w fun r w'=>r= .returned (.pointer none)∧w=w':=by
 have HL:=xhd (cpNil_len w)
 by_cases h1:core < 0
 ·have b1:decide (core < 0)=true:=by simpa using h1
  go_enter Try.func17,Try.ntmps17
  go_wp2
  go_ret
  exact⟨rfl,rfl⟩
 ·have b1:decide (core < 0)=false:=by simpa using h1
  have b2:decide (0≤core)=true:=by simp;omega
  go_enter Try.func17,Try.ntmps17
  go_wp2_with fail
  with_reducible refine HL.out.mono ?_
  rintro e w1 ⟨rfl,rfl⟩
  go_wp2
  go_ret
  exact⟨rfl,rfl⟩
theorem cpNil_of (id:Int) (w:World):Calls Try.prog 12 #[.pointer none, .int .i64 id] w fun r w'=>r= .returned (.int .i64 (-1))∧w=w':=by
 have HL:=xhd (cpNil_len w)
 go_enter Try.func12,Try.ntmps12
 go_wp2_with fail
 with_reducible refine HL.out.mono ?_
 rintro e w1 ⟨rfl,rfl⟩
 go_wp2
 go_loop [10] (fun iv=>iv= .int .i64 0) (fun _=>0)
 case atStart=>rfl
 case round=>
  subst hrel
  go_wp2
  go_ret
  exact⟨rfl,rfl⟩
theorem cpNil_home (id:Int) (w:World):Calls Try.prog 26 #[.pointer none, .int .i64 id] w fun r w'=>r= .returned (.pointer none)∧w=w':=by
 have HO:=xhd (cpNil_of id w)
 have HQ:=xhd (fun V=>cpNil_queue (-1) V)
 go_enter Try.func26,Try.ntmps26
 go_wp2_with fail
 with_reducible refine HO.out.mono ?_
 rintro e w1 ⟨rfl,rfl⟩
 go_wp2_with fail
 with_reducible refine (HQ.out _).mono ?_
 rintro e w2 ⟨rfl,rfl⟩
 go_wp2
 go_ret
 exact⟨rfl,rfl⟩
theorem cpNil_add (core id v wt:Int) (w:World):Calls Try.prog 8 #[.pointer none, .int .i64 core, .int .i64 id, .int .u64 v, .int .i64 wt] w fun r w'=>(∃x,r= .returned (.tuple #[x, .int .i64 1]))∧Turned [] w w':=by
 have HQ:=xhd (cpNil_queue core w)
 go_enter Try.func8,Try.ntmps8
 go_wp2_with fail
 with_reducible refine HQ.out.mono ?_
 rintro e w1 ⟨rfl,rfl⟩
 go_wp2
 go_ret2
 exact⟨⟨_,rfl⟩,Turned.refl _ _⟩
theorem cpNil_remove (id:Int) (w:World):Calls Try.prog 13 #[.pointer none, .int .i64 id] w fun r w'=>(∃x,r= .returned (.tuple #[x, .bool false]))∧Turned [] w w':=by
 have HH:=xhd (cpNil_home id w)
 have HR:=xhd (fun V=>rpNil_remove id V)
 go_enter Try.func13,Try.ntmps13
 go_wp2_with fail
 with_reducible refine HH.out.mono ?_
 rintro e w1 ⟨rfl,rfl⟩
 go_wp2_with fail
 with_reducible refine (HR.out _).mono ?_
 rintro e w2 ⟨rfl,t2⟩
 have T2:=xhd t2
 clear t2
 go_wp2
 go_ret2
 exact⟨⟨_,rfl⟩,T2.out⟩
theorem cpNil_weigh (id wt:Int) (w:World):Calls Try.prog 16 #[.pointer none, .int .i64 id, .int .i64 wt] w fun r w'=>(r= .returned (.bool false))∧Turned [] w w':=by
 have HH:=xhd (cpNil_home id w)
 have HR:=xhd (fun V=>rpNil_weigh id wt V)
 go_enter Try.func16,Try.ntmps16
 go_wp2_with fail
 with_reducible refine HH.out.mono ?_
 rintro e w1 ⟨rfl,rfl⟩
 go_wp2_with fail
 with_reducible refine (HR.out _).mono ?_
 rintro e w2 ⟨rfl,t2⟩
 have T2:=xhd t2
 clear t2
 go_wp2
 go_ret
 exact⟨rfl,T2.out⟩
theorem cpNil_move (id core:Int) (w:World):Calls Try.prog 15 #[.pointer none, .int .i64 id, .int .i64 core] w fun r w'=>(r= .returned (.int .i64 1))∧Turned [] w w':=by
 go_enter Try.func15,Try.ntmps15
 go_wp2
 go_ret
 exact⟨rfl,Turned.refl _ _⟩
theorem cpNil_bal (w:World):Calls Try.prog 11 #[.pointer none] w fun r w'=>(r= .returned (.tuple #[.int .i64 (-1), .int .i64 (-1), .int .i64 (-1), .bool false]))∧Turned [] w w':=by
 have HL:=xhd (cpNil_len w)
 go_enter Try.func11,Try.ntmps11
 go_wp2_with fail
 with_reducible refine HL.out.mono ?_
 rintro e w1 ⟨rfl,rfl⟩
 go_wp2
 (try simp only [Exit.inBlock,Exit.then])
 refine bodyPost_ret (results_tmp4 rfl _ _ _) rfl ?_
 exact⟨rfl,Turned.refl _ _⟩
theorem cpNil_settle (w:World):Calls Try.prog 14 #[.pointer none] w fun r w'=>(r= .returned (.tuple #[]))∧Turned [] w w':=by
 have HL:=xhd (cpNil_len w)
 go_enter Try.func14,Try.ntmps14
 go_wp2_with fail
 with_reducible refine HL.out.mono ?_
 rintro e w1 ⟨rfl,rfl⟩
 go_wp2
 go_loop [5] (fun iv=>iv= .int .i64 0) (fun _=>0)
 case atStart=>rfl
 case round=>
  subst hrel
  go_wp2
  refine bodyPost_end (results_none rfl _ _ _) rfl ?_
  exact⟨rfl,Turned.refl _ _⟩
theorem cpNil_loads (w:World):Calls Try.prog 10 #[.pointer none] w fun r w'=>(∃a cap,r= .returned (.slice a 0 cap))∧Turned [] w w':=by
 have HL:=xhd (cpNil_len w)
 go_enter Try.func10,Try.ntmps10
 go_wp2_with fail
 with_reducible refine HL.out.mono ?_
 rintro e w1 ⟨rfl,rfl⟩
 go_wp2
 go_loop [3,7] (fun o iv=>o= .slice none 0 0∧iv= .int .i64 0) (fun _ _=>0)
 case atStart=>exact⟨rfl,rfl⟩
 case round=>
  obtain⟨rfl,rfl⟩:=hrel
  go_wp2
  go_ret
  exact⟨⟨_,_,rfl⟩,Turned.refl _ _⟩
theorem eq_turned {w w':World} (h:w=w'):Turned [] w w':=h ▸ Turned.refl _ _
theorem coNil:CoNil where
 add:=cpNil_add
 remove:=cpNil_remove
 bal:=cpNil_bal
 settle:=cpNil_settle
 move:=cpNil_move
 weigh:=cpNil_weigh
 of:=fun id w=>(cpNil_of id w).mono fun _ _ h=>⟨h.1,eq_turned h.2⟩
 queue:=fun core w=>(cpNil_queue core w).mono fun _ _ h=>⟨h.1,eq_turned h.2⟩
 loads:=cpNil_loads
 len:=fun w=>(cpNil_len w).mono fun _ _ h=>⟨h.1,eq_turned h.2⟩
end Go.Proofs.Ytfmciiffcmfagaa
