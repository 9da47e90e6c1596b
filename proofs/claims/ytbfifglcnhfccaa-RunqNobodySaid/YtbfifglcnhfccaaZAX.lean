/-
  What nobody's queue of the program answers.
-/
import Derived.Test.YtbfifglcnhfccaaZAU
import Derived.Test.YtbfifglcnhfccaaZAN
import Derived.Test.YtbfifglcnhfccaaZAl
set_option maxRecDepth 100000
set_option maxHeartbeats 25600000
namespace Go.Proofs.Ytbfifglcnhfccaa
open Go.RowKit
attribute [local go_sem] Oper.semAt_some
theorem rpNil_find (id:Int) (w:World):Calls Try.prog 46 #[.pointer none, .int .i64 id] w fun r w'=>r= .returned (.pointer none)∧w'=w:=by
 go_enter Try.func46,Try.ntmps46
 go_wp2
 go_ret
 exact⟨rfl,rfl⟩
theorem rpNil_running (w:World):Calls Try.prog 50 #[.pointer none] w fun r w'=>r= .returned (.pointer none)∧w'=w:=by
 go_enter Try.func50,Try.ntmps50
 go_wp2
 go_ret
 exact⟨rfl,rfl⟩
theorem rpNil_add (id v wt:Int) (w:World):Calls Try.prog 11 #[.pointer none, .int .i64 id, .int .u64 v, .int .i64 wt] w fun r w'=>r= .returned (.tuple #[.int .u64 0, .int .i64 1])∧Turned [] w w':=by
 go_enter Try.func11,Try.ntmps11
 go_wp2
 go_ret2
 exact⟨rfl,Turned.refl _ _⟩
theorem rpNil_remove (id:Int) (w:World):Calls Try.prog 13 #[.pointer none, .int .i64 id] w fun r w'=>r= .returned (.tuple #[.int .u64 0, .bool false])∧Turned [] w w':=by
 have H:=xhd (rpNil_find id w)
 go_enter Try.func13,Try.ntmps13
 go_wp2_with fail
 with_reducible refine H.out.mono ?_
 rintro e V ⟨rfl,rfl⟩
 go_wp2
 go_ret2
 exact⟨rfl,Turned.refl _ _⟩
theorem rpNil_pick (w:World):Calls Try.prog 15 #[.pointer none] w fun r w'=>r= .returned (.tuple #[.int .i64 (-1), .bool false])∧Turned [] w w':=by
 go_enter Try.func15,Try.ntmps15
 go_wp2
 go_ret2
 exact⟨rfl,Turned.refl _ _⟩
theorem rpNil_back (w:World):Calls Try.prog 17 #[.pointer none] w fun r w'=>r= .returned (.tuple #[.int .i64 (-1), .bool false])∧Turned [] w w':=by
 have H:=xhd (rpNil_running w)
 go_enter Try.func17,Try.ntmps17
 go_wp2_with fail
 with_reducible refine H.out.mono ?_
 rintro e V ⟨rfl,rfl⟩
 go_wp2
 go_ret2
 exact⟨rfl,Turned.refl _ _⟩
theorem rpNil_tick (w:World):Calls Try.prog 19 #[.pointer none] w fun r w'=>r= .returned (.tuple #[.int .i64 (-1), .bool false])∧Turned [] w w':=by
 have H:=xhd (rpNil_running w)
 go_enter Try.func19,Try.ntmps19
 go_wp2_with fail
 with_reducible refine H.out.mono ?_
 rintro e V ⟨rfl,rfl⟩
 go_wp2
 go_ret2
 exact⟨rfl,Turned.refl _ _⟩
theorem rpNil_current (w:World):Calls Try.prog 33 #[.pointer none] w fun r w'=>r= .returned (.tuple #[.int .i64 (-1), .int .i64 0, .bool false])∧Turned [] w w':=by
 have H:=xhd (rpNil_running w)
 go_enter Try.func33,Try.ntmps33
 go_wp2_with fail
 with_reducible refine H.out.mono ?_
 rintro e V ⟨rfl,rfl⟩
 go_wp2
 go_ret3
 exact⟨rfl,Turned.refl _ _⟩
theorem rpNil_vv (id:Int) (w:World):Calls Try.prog 28 #[.pointer none, .int .i64 id] w fun r w'=>r= .returned (.tuple #[.int .u64 0, .bool false])∧Turned [] w w':=by
 have H:=xhd (rpNil_find id w)
 go_enter Try.func28,Try.ntmps28
 go_wp2_with fail
 with_reducible refine H.out.mono ?_
 rintro e V ⟨rfl,rfl⟩
 go_wp2
 go_ret2
 exact⟨rfl,Turned.refl _ _⟩
theorem rpNil_settle (w:World):Calls Try.prog 23 #[.pointer none] w fun r w'=>r= .returned (.tuple #[])∧Turned [] w w':=by
 go_enter Try.func23,Try.ntmps23
 go_wp2
 go_end0
 exact⟨rfl,Turned.refl _ _⟩
theorem rpNil_due (w:World):Calls Try.prog 35 #[.pointer none] w fun r w'=>r= .returned (.bool false)∧Turned [] w w':=by
 have H:=xhd (rpNil_running w)
 go_enter Try.func35,Try.ntmps35
 go_wp2_with fail
 with_reducible refine H.out.mono ?_
 rintro e V ⟨rfl,rfl⟩
 go_wp2_with fail
 go_quiet (fail)
 go_wp2
 go_ret
 exact⟨rfl,(Turned.refl _ _).drewN _⟩
theorem rpNil_weigh (id wt:Int) (w:World):Calls Try.prog 21 #[.pointer none, .int .i64 id, .int .i64 wt] w fun r w'=>r= .returned (.bool false)∧Turned [] w w':=by
 have H:=xhd (rpNil_find id w)
 go_enter Try.func21,Try.ntmps21
 go_wp2_with fail
 with_reducible refine H.out.mono ?_
 rintro e V ⟨rfl,rfl⟩
 go_wp2
 go_ret
 exact⟨rfl,Turned.refl _ _⟩
theorem rpNil_floor (w:World):Calls Try.prog 29 #[.pointer none] w fun r w'=>r= .returned (.int .u64 0)∧Turned [] w w':=by
 go_enter Try.func29,Try.ntmps29
 go_wp2
 go_ret
 exact⟨rfl,Turned.refl _ _⟩
theorem rpNil_len (w:World):Calls Try.prog 36 #[.pointer none] w fun r w'=>r= .returned (.int .i64 0)∧Turned [] w w':=by
 go_enter Try.func36,Try.ntmps36
 go_wp2
 go_ret
 exact⟨rfl,Turned.refl _ _⟩
theorem rpNil_load (w:World):Calls Try.prog 37 #[.pointer none] w fun r w'=>r= .returned (.int .i64 0)∧Turned [] w w':=by
 refine callsIn_wide.1 (?_:CallsIn Fence.wide 20 _ _ _ _ _)
 refine callsIn_of_wp_marks Try.func37 rfl trivial ?_ rfl
 simp only [Try.ntmps37,List.size_toArray,List.length_cons,List.length_nil,Nat.reduceAdd,Nat.reduceSub,Array.replicate_succ,Array.replicate_zero,List.push_toArray,List.append_toArray,List.nil_append,List.cons_append]
 refine wpIn_wide.2 ?_
 go_wp2
 refine⟨_,results_tmp rfl _ _ _,rfl,Turned.refl _ _⟩
theorem rpNil_ready (w:World):Calls Try.prog 34 #[.pointer none] w fun r w'=>r= .returned (.func (.func 61) #[] #[])∧Turned [] w w':=by
 go_enter Try.func34,Try.ntmps34
 go_wp2
 go_ret
 exact⟨rfl,Turned.refl _ _⟩
theorem rpNil_seq (n:Nat) (w:World):TurnSeq Fence.wide n Try.prog 61 #[] encR [] [] (fun _=>False) (fun xs _=>xs=[]) (fun _ _=>False) w:=by
 intro l J Jx W hW hJ hYi hj0
 have R:=xhd hj0
 clear hW hJ hYi hj0
 refine callsIn_wide.2 ?_
 simp only [List.append_toArray,List.append_nil]
 go_enter Try.func61,Try.ntmps61
 go_wp2
 go_end0
 exact⟨⟨_,rfl⟩, .inl ⟨[],rfl,R.out⟩⟩
theorem rpNil:RqNil:=⟨rpNil_add,rpNil_remove,rpNil_pick,rpNil_back,rpNil_tick,rpNil_current,rpNil_vv,rpNil_settle,rpNil_due,rpNil_weigh,rpNil_floor,rpNil_len,rpNil_load,
 fun w=>(rpNil_ready w).mono fun _ w' ⟨e1,t⟩=>⟨_,_,e1,t,fun _ _=>rfl,fun n _=>rpNil_seq n w'⟩⟩
end Go.Proofs.Ytbfifglcnhfccaa
