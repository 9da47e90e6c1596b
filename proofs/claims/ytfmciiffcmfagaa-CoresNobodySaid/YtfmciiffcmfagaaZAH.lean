/-
  CoresNobody: what nil cores answer, and the walk. (Made by gen_conobody.py.)
  CoresNobody's row, given what nil cores answer.
-/
import Derived.Test.YtfmciiffcmfagaaZAC
import Derived.Test.YtfmciiffcmfagaaZAl
set_option maxRecDepth 100000
set_option maxHeartbeats 25600000
namespace Go.Proofs.Ytfmciiffcmfagaa
open Go.RowKit
structure CoNil:Prop where
 add:∀(core id v wt:Int) (w:World),Calls Try.prog 8 #[.pointer none, .int .i64 core, .int .i64 id, .int .u64 v, .int .i64 wt] w fun r w'=>(∃x,r= .returned (.tuple #[x, .int .i64 1]))∧Turned [] w w'
 remove:∀(id:Int) (w:World),Calls Try.prog 13 #[.pointer none, .int .i64 id] w fun r w'=>(∃x,r= .returned (.tuple #[x, .bool false]))∧Turned [] w w'
 bal:∀(w:World),Calls Try.prog 11 #[.pointer none] w fun r w'=>(r= .returned (.tuple #[.int .i64 (-1), .int .i64 (-1), .int .i64 (-1), .bool false]))∧Turned [] w w'
 settle:∀(w:World),Calls Try.prog 14 #[.pointer none] w fun r w'=>(r= .returned (.tuple #[]))∧Turned [] w w'
 move:∀(id core:Int) (w:World),Calls Try.prog 15 #[.pointer none, .int .i64 id, .int .i64 core] w fun r w'=>(r= .returned (.int .i64 1))∧Turned [] w w'
 weigh:∀(id wt:Int) (w:World),Calls Try.prog 16 #[.pointer none, .int .i64 id, .int .i64 wt] w fun r w'=>(r= .returned (.bool false))∧Turned [] w w'
 of:∀(id:Int) (w:World),Calls Try.prog 12 #[.pointer none, .int .i64 id] w fun r w'=>(r= .returned (.int .i64 (-1)))∧Turned [] w w'
 queue:∀(core:Int) (w:World),Calls Try.prog 17 #[.pointer none, .int .i64 core] w fun r w'=>(r= .returned (.pointer none))∧Turned [] w w'
 loads:∀(w:World),Calls Try.prog 10 #[.pointer none] w fun r w'=>(∃a cap,r= .returned (.slice a 0 cap))∧Turned [] w w'
 len:∀(w:World),Calls Try.prog 7 #[.pointer none] w fun r w'=>(r= .returned (.int .i64 0))∧Turned [] w w'
theorem conobody_walk (S:RqSaid) (C:CoSaid S) (N:CoNil) (id core:Int) (w:World):Calls Try.prog 4 #[.int .i64 id, .int .i64 core] w fun e w'=>e= .returned (.bool true)∧Turned [] w w':=by
 have AW:=xhd (awake17 S C w)
 have P_add:=xhd (fun V=>N.add core id 0 1 V)
 have P_remove:=xhd (fun V=>N.remove id V)
 have P_bal:=xhd (fun V=>N.bal V)
 have P_settle:=xhd (fun V=>N.settle V)
 have P_move:=xhd (fun V=>N.move id core V)
 have P_weigh:=xhd (fun V=>N.weigh id 1 V)
 have P_of:=xhd (fun V=>N.of id V)
 have P_queue:=xhd (fun V=>N.queue core V)
 have P_loads:=xhd (fun V=>N.loads V)
 have P_len:=xhd (fun V=>N.len V)
 go_enter Try.func4,Try.ntmps4
 go_wp2_with fail
 with_reducible refine AW.out.mono ?_
 rintro e w1 ⟨rfl,t1⟩
 have T1:=xhd t1
 clear t1 AW
 go_wp2_with fail
 with_reducible refine (P_add.out _).mono ?_
 rintro e w2 ⟨⟨x,rfl⟩,t⟩
 have T2:=xhd (T1.out.also t)
 clear t T1 P_add
 go_wp2_with fail
 with_reducible refine (P_remove.out _).mono ?_
 rintro e w3 ⟨⟨x2,rfl⟩,t⟩
 have T3:=xhd (T2.out.also t)
 clear t T2 P_remove
 go_wp2_with fail
 with_reducible refine (P_bal.out _).mono ?_
 rintro e w4 ⟨rfl,t⟩
 have T4:=xhd (T3.out.also t)
 clear t T3 P_bal
 go_wp2_with fail
 with_reducible refine (P_settle.out _).mono ?_
 rintro e w5 ⟨rfl,t⟩
 have T5:=xhd (T4.out.also t)
 clear t T4 P_settle
 go_wp2_with fail
 with_reducible refine (P_move.out _).mono ?_
 rintro e w6 ⟨rfl,t⟩
 have T6:=xhd (T5.out.also t)
 clear t T5 P_move
 go_wp2_with fail
 with_reducible refine (P_weigh.out _).mono ?_
 rintro e w7 ⟨rfl,t⟩
 have T7:=xhd (T6.out.also t)
 clear t T6 P_weigh
 go_wp2_with fail
 with_reducible refine (P_of.out _).mono ?_
 rintro e w8 ⟨rfl,t⟩
 have T8:=xhd (T7.out.also t)
 clear t T7 P_of
 go_wp2_with fail
 with_reducible refine (P_queue.out _).mono ?_
 rintro e w9 ⟨rfl,t⟩
 have T9:=xhd (T8.out.also t)
 clear t T8 P_queue
 go_wp2_with fail
 with_reducible refine (P_loads.out _).mono ?_
 rintro e w10 ⟨⟨la,lc,rfl⟩,t⟩
 have T10:=xhd (T9.out.also t)
 clear t T9 P_loads
 go_wp2_with fail
 with_reducible refine (P_len.out _).mono ?_
 rintro e w11 ⟨rfl,t⟩
 have T11:=xhd (T10.out.also t)
 clear t T10 P_len
 go_wp2
 go_ret
 exact⟨rfl,T11.out⟩
end Go.Proofs.Ytfmciiffcmfagaa
namespace Go.Proofs.Ytfmciiffcmfagaa
open Go.ChangeShapes Go.WideShapes Go.ChangeAt Go.RowKit Go.Deep
theorem conobody_lifted (S:RqSaid) (C:CoSaid S) (N:CoNil) (os:Os) (started:os.Started) (H:Type) (enc:TypeId×Value→H):
  ReturnsInHanded {} Try.checked os 4 .any (Rows.coresNobodySpec.pre6 enc Try.prog Try.f4 Rows.coresNobodyRow.domain false) (Rows.coresNobodySpec.post enc Try.prog Try.f4 false true false false):=by
 refine returnsInHanded_of_change (C:=Try.checked) own started (by kernel_rfl) Try.func4
  (ChangeSpec.witness6 (enc:=enc) (C:=Try.checked) false ⟨#[], #[.int .i64 0, .int .i64 0],[]⟩ 8 (by kernel_rfl) (by kernel_rfl) (by kernel_rfl) (by kernel_rfl)) ?_
 intro W base args ds gs before hval0 hW hcnd _
 have hval:∀(j:Nat) t v,Try.f4.params[j]?=some t→args[j]?=some v→Value.okWide Try.prog W .any base t v:=hval0
 have hW':=hW
 obtain⟨p,q,hA0,hV,rfl,hfz,hnd⟩:=hW
 have hA:DataW.TrodAll enc Try.prog W 0 (fun _=>true) true Try.f4.params.toList args.toList ds p:=hA0
 rw [Try.params4] at hA hval
 obtain⟨v0,v1,d0,d1,p0,p1,rfl,rfl,rfl,h0,h1⟩:=trodAll_two hA
 obtain⟨rfl,rfl⟩:=trodVars_none hV
 obtain⟨a0,rfl,rfl,rfl,w0⟩:=open_int Try.underlying3 (hval 0 3 v0 rfl rfl) h0
 obtain⟨a1,rfl,rfl,rfl,w1⟩:=open_int Try.underlying3 (hval 1 3 v1 rfl rfl) h1
 clear hA0 hval0
 refine (conobody_walk S C N a0 a1 W).mono fun e W' ⟨he,ht⟩=>?_
 have hb:Below W.heap.size W W':=ht.below (by simp) (Nat.le_refl _)
 subst he
 exact⟨_,rfl,post_law (pa:=[]) (pv:=[]) hW' hb (fun _ _ _=>trodAll_mk1 (shut_bool Try.underlying4 _))
  (trodAll_mk2 (shut_int Try.underlying3 w0) (shut_int Try.underlying3 w1)) rfl⟩
theorem coresNobody_of (S:RqSaid) (C:CoSaid S) (N:CoNil):Rows.CoresNobodySaid:=
 OpenClaim.holds_of_wide 4 Try.f4 rfl rfl rfl rfl rfl rfl rfl ⟨rfl,rfl,rfl,rfl,rfl⟩ rfl rfl rfl rfl rfl (by kernel_rfl) Try.func4 (by kernel_rfl)
  (of_decide_eq_true (by kernel_rfl)) (by unfold Func.isWrapper;first|(rw [if_pos (by decide+kernel)];kernel_rfl) |(rw [if_neg (by decide+kernel)];exact⟨rfl,rfl⟩))
  (fun os started H enc _=>conobody_lifted S C N os started H enc)
end Go.Proofs.Ytfmciiffcmfagaa
