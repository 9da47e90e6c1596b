/-
  RunqNobody: what a nil queue answers, and the walk. (Made by gen_rqnobody.py.)
  RunqNobody's row, given what a nil queue answers.
-/
import Derived.Test.YtbfifglcnhfccaaZAH
import Derived.Test.YtbfifglcnhfccaaZAB
import Derived.TacticsIn
import Derived.OwnWalkIn
import Derived.Test.YtbfifglcnhfccaaZAG
import Derived.Test.YtbfifglcnhfccaaZAl
set_option maxRecDepth 100000
set_option maxHeartbeats 25600000
namespace Go.Proofs.Ytbfifglcnhfccaa
open Go.RowKit Go.Maps Go.Shelf
attribute [local go_sem] Oper.semAt_some
structure RqNil:Prop where
 add:∀(id v wt:Int) (w:World),Calls Try.prog 11 #[.pointer none, .int .i64 id, .int .u64 v, .int .i64 wt] w fun r w'=>r= .returned (.tuple #[.int .u64 0, .int .i64 1])∧Turned [] w w'
 remove:∀(id:Int) (w:World),Calls Try.prog 13 #[.pointer none, .int .i64 id] w fun r w'=>r= .returned (.tuple #[.int .u64 0, .bool false])∧Turned [] w w'
 pick:∀(w:World),Calls Try.prog 15 #[.pointer none] w fun r w'=>r= .returned (.tuple #[.int .i64 (-1), .bool false])∧Turned [] w w'
 back:∀(w:World),Calls Try.prog 17 #[.pointer none] w fun r w'=>r= .returned (.tuple #[.int .i64 (-1), .bool false])∧Turned [] w w'
 tick:∀(w:World),Calls Try.prog 19 #[.pointer none] w fun r w'=>r= .returned (.tuple #[.int .i64 (-1), .bool false])∧Turned [] w w'
 current:∀(w:World),Calls Try.prog 33 #[.pointer none] w fun r w'=>r= .returned (.tuple #[.int .i64 (-1), .int .i64 0, .bool false])∧Turned [] w w'
 vv:∀(id:Int) (w:World),Calls Try.prog 28 #[.pointer none, .int .i64 id] w fun r w'=>r= .returned (.tuple #[.int .u64 0, .bool false])∧Turned [] w w'
 settle:∀(w:World),Calls Try.prog 23 #[.pointer none] w fun r w'=>r= .returned (.tuple #[])∧Turned [] w w'
 due:∀(w:World),Calls Try.prog 35 #[.pointer none] w fun r w'=>r= .returned (.bool false)∧Turned [] w w'
 weigh:∀(id wt:Int) (w:World),Calls Try.prog 21 #[.pointer none, .int .i64 id, .int .i64 wt] w fun r w'=>r= .returned (.bool false)∧Turned [] w w'
 floor:∀(w:World),Calls Try.prog 29 #[.pointer none] w fun r w'=>r= .returned (.int .u64 0)∧Turned [] w w'
 len:∀(w:World),Calls Try.prog 36 #[.pointer none] w fun r w'=>r= .returned (.int .i64 0)∧Turned [] w w'
 load:∀(w:World),Calls Try.prog 37 #[.pointer none] w fun r w'=>r= .returned (.int .i64 0)∧Turned [] w w'
 ready:∀(w:World),Calls Try.prog 34 #[.pointer none] w fun r w'=>∃f lb,r= .returned (.func (.func f) #[] lb)∧Turned [] w w'∧(∀args W,(callFunc f args).run Try.prog W= .ok (.enter f args) W)∧
  ∀n,1≤n→TurnSeq Fence.wide n Try.prog f lb encR [] [] (fun _=>False) (fun xs _=>xs=[]) (fun _ _=>False) w'
theorem nb_result {fn:Func} {p:Tmp} (hf:fn.results= #[.cell p 4]) {tmps:Array Value} {w:World} {B:Nat} {v:Value} (hp:tmps.getD p undef= .pointer (some ⟨B,0,none⟩)) (h:w.heap[B]?=some (.cells #[v] 4 (0,0))):
  (results fn tmps).run Try.prog w= .ok v w:=by
 have h0:=cell1 h
 have hp':tmps[p]?.getD undef= .pointer (some ⟨B,0,none⟩):=by simpa using hp
 simp [results,hf,hp',loadVar,go_sem,h0,asAddr,Sem.run_bind,Result.andThen]
structure NbK (w W:World):Prop where
 box:W.heap[w.heap.size]?=some (.cells #[.bool false] 4 (0,0))
 t:Turned [] w W
theorem NbK.later {w W W':World} (h:NbK w W) (t:Turned [] W W'):NbK w W':=⟨t.same h.box (by simp),h.t.trans t (Newer.refl _ _)⟩
theorem rqnobody_walk (S:RqSaid) (N:RqNil) (id v:Int) (w:World):Calls Try.prog 6 #[.int .i64 id, .int .u64 v] w fun e w'=>e= .returned (.bool true)∧Turned [] w w':=by
 have K0:NbK w (w.alloc (.cells #[.bool false] 4)):=⟨heap_alloc_new w _,(Turned.refl [] w).alloc _⟩
 have HK0:=xhd K0
 have AW:=xhd (awake16 S (w.alloc (.cells #[.bool false] 4)))
 have P_add:=xhd (fun V=>N.add id v 1 V)
 have P_remove:=xhd (fun V=>N.remove id V)
 have P_pick:=xhd (fun V=>N.pick V)
 have P_back:=xhd (fun V=>N.back V)
 have P_tick:=xhd (fun V=>N.tick V)
 have P_current:=xhd (fun V=>N.current V)
 have P_vv:=xhd (fun V=>N.vv id V)
 have P_settle:=xhd (fun V=>N.settle V)
 have P_ready:=xhd (fun V=>N.ready V)
 have P_due:=xhd (fun V=>N.due V)
 have P_weigh:=xhd (fun V=>N.weigh id 1 V)
 have P_floor:=xhd (fun V=>N.floor V)
 have P_len:=xhd (fun V=>N.len V)
 have P_load:=xhd (fun V=>N.load V)
 clear K0
 refine callsIn_wide.1 (?_:CallsIn Fence.wide 20 _ _ _ _ _)
 refine callsIn_of_wp_marks Try.func6 rfl trivial ?_ rfl
 simp only [Try.ntmps6,List.size_toArray,List.length_cons,List.length_nil,Nat.reduceAdd,Nat.reduceSub,Array.replicate_succ,Array.replicate_zero,List.push_toArray,List.append_toArray,List.nil_append,List.cons_append]
 refine wpIn_wide.2 ?_
 go_wp2_with fail
 with_reducible refine AW.out.mono ?_
 rintro e w1 ⟨rfl,t1⟩
 have K1:=xhd (HK0.out.later t1)
 clear t1 HK0 AW
 go_wp2_with fail
 with_reducible refine (P_add.out _).mono ?_
 rintro e w2 ⟨rfl,t⟩
 have K2:=xhd (K1.out.later t)
 clear t K1
 go_wp2_with fail
 with_reducible refine (P_remove.out _).mono ?_
 rintro e w3 ⟨rfl,t⟩
 have K3:=xhd (K2.out.later t)
 clear t K2
 go_wp2_with fail
 with_reducible refine (P_pick.out _).mono ?_
 rintro e w4 ⟨rfl,t⟩
 have K4:=xhd (K3.out.later t)
 clear t K3
 go_wp2_with fail
 with_reducible refine (P_back.out _).mono ?_
 rintro e w5 ⟨rfl,t⟩
 have K5:=xhd (K4.out.later t)
 clear t K4
 go_wp2_with fail
 with_reducible refine (P_tick.out _).mono ?_
 rintro e w6 ⟨rfl,t⟩
 have K6:=xhd (K5.out.later t)
 clear t K5
 go_wp2_with fail
 with_reducible refine (P_current.out _).mono ?_
 rintro e w7 ⟨rfl,t⟩
 have K7:=xhd (K6.out.later t)
 clear t K6
 go_wp2_with fail
 with_reducible refine (P_vv.out _).mono ?_
 rintro e w8 ⟨rfl,t⟩
 have K8:=xhd (K7.out.later t)
 clear t K7
 go_wp2_with fail
 with_reducible refine (P_settle.out _).mono ?_
 rintro e w9 ⟨rfl,t⟩
 have K9:=xhd (K8.out.later t)
 clear t K8
 go_wp2_with fail
 refine (P_ready.out _).mono ?_
 rintro e W ⟨f,lb,rfl,t,hent,hseq⟩
 have KR:=xhd (K9.out.later t)
 have HENT:=xhd hent
 have HSEQ:=xhd (hseq 19 (by omega))
 clear t hent hseq K9
 go_wp2_with fail
 refine (wpIn_wide (n:=20)).1 ?_
 refine range_turns rfl (by omega) (gf:=f) (lb:=lb) rfl trivial HENT.out (X:=[]) (Y:=[]) (by simp) (by simp) HSEQ.out (fun _=>rfl) (fun _ _ _ h _=>h) (fun _ _ _ h _=>h)
  (fun _ W'=>NbK w W') (fun _ _ _=>False) ?hI (fun _ _ _ _ h _=>h.elim) KR.out (fun _ _ _=>True) (fun _ _ _ _ _ _=>trivial) ?assign (fun _ _ _ _ _ _ _ h=>h.elim) ?done (fun _ _ _ _ _ h _ _=>h.elim)
 case hI=>
  intro xs A' B h m
  exact⟨m.cells h.box (by simp),h.t.mild m KR.out.t.size (by simp)⟩
 case assign=>
  intro l x x' W' K hI hK
  gi_wp2
  exact hK _ _ (KeepsFrom.refl _ _) (SameAt.refl _ _) hI trivial
 case done=>
  rintro DD xs W5 hD _ hS hK
  have hwD:w.heap.size < DD:=Nat.lt_of_lt_of_le (lt_of_block KR.out.box) hD
  have KD:=xhd (And.intro hS hK)
  clear hS hK HENT HSEQ hD
  go_wp2_with fail
  with_reducible refine (P_due.out _).mono ?_
  rintro e V0 ⟨rfl,t⟩
  have KD0:=xhd (And.intro (KD.out.1.later t) (t.same KD.out.2 (by simp)))
  clear t
  go_wp2_with fail
  with_reducible refine (P_weigh.out _).mono ?_
  rintro e V1 ⟨rfl,t⟩
  have KD1:=xhd (And.intro (KD0.out.1.later t) (t.same KD0.out.2 (by simp)))
  clear t
  go_wp2_with fail
  with_reducible refine (P_floor.out _).mono ?_
  rintro e V2 ⟨rfl,t⟩
  have KD2:=xhd (And.intro (KD1.out.1.later t) (t.same KD1.out.2 (by simp)))
  clear t
  go_wp2_with fail
  with_reducible refine (P_len.out _).mono ?_
  rintro e V3 ⟨rfl,t⟩
  have KD3:=xhd (And.intro (KD2.out.1.later t) (t.same KD2.out.2 (by simp)))
  clear t
  go_wp2_with fail
  with_reducible refine (P_load.out _).mono ?_
  rintro e V4 ⟨rfl,t⟩
  have KD4:=xhd (And.intro (KD3.out.1.later t) (t.same KD3.out.2 (by simp)))
  clear t
  have b0:=cell1 KD4.out.1.box
  have bf:=frozen_of_row V4 w.heap.size 0 _ _ KD4.out.1.box
  go_wp2
  have hbx:(V4.setCell ⟨w.heap.size,0,none⟩ (.bool true)).heap[w.heap.size]?=some (.cells #[.bool true] 4 (0,0)):=by
   rw [heap_setCell_same _ _ _ _ _ _ KD4.out.1.box]
   rfl
  have hdx:(V4.setCell ⟨w.heap.size,0,none⟩ (.bool true)).heap[DD]?=some (.deferred (some [])):=(Below.heap_setCell _ _ _ _ (by show DD≠w.heap.size;omega)).trans KD4.out.2
  refine⟨by simp, .inl ⟨_,_,rfl,run_takeDeferred hdx,?_⟩⟩
  refine⟨_,nb_result rfl rfl ((World.putObj_heap_other (by omega)).trans hbx),rfl,?_⟩
  exact (KD4.out.1.t.setCell (.inr (Nat.le_refl _)) _).put (by omega) _
end Go.Proofs.Ytbfifglcnhfccaa
namespace Go.Proofs.Ytbfifglcnhfccaa
open Go.ChangeShapes Go.WideShapes Go.ChangeAt Go.RowKit Go.Deep
theorem rqnobody_lifted (S:RqSaid) (N:RqNil) (os:Os) (started:os.Started) (H:Type) (enc:TypeId×Value→H):
  ReturnsInHanded {} Try.checked os 6 .any (Rows.runqNobodySpec.pre6 enc Try.prog Try.f6 Rows.runqNobodyRow.domain false) (Rows.runqNobodySpec.post enc Try.prog Try.f6 false true false false):=by
 refine returnsInHanded_of_change (C:=Try.checked) own started (by kernel_rfl) Try.func6
  (ChangeSpec.witness6 (enc:=enc) (C:=Try.checked) false ⟨#[], #[.int .i64 0, .int .u64 0],[]⟩ 8 (by kernel_rfl) (by kernel_rfl) (by kernel_rfl) (by kernel_rfl)) ?_
 intro W base args ds gs before hval0 hW hcnd _
 have hval:∀(j:Nat) t v,Try.f6.params[j]?=some t→args[j]?=some v→Value.okWide Try.prog W .any base t v:=hval0
 have hW':=hW
 obtain⟨p,q,hA0,hV,rfl,hfz,hnd⟩:=hW
 have hA:DataW.TrodAll enc Try.prog W 0 (fun _=>true) true Try.f6.params.toList args.toList ds p:=hA0
 rw [Try.params6] at hA hval
 obtain⟨v0,v1,d0,d1,p0,p1,rfl,rfl,rfl,h0,h1⟩:=trodAll_two hA
 obtain⟨rfl,rfl⟩:=trodVars_none hV
 obtain⟨a0,rfl,rfl,rfl,w0⟩:=open_int Try.underlying3 (hval 0 3 v0 rfl rfl) h0
 obtain⟨a1,rfl,rfl,rfl,w1⟩:=open_int Try.underlying28 (hval 1 28 v1 rfl rfl) h1
 clear hA0 hval0
 refine (rqnobody_walk S N a0 a1 W).mono fun e W' ⟨he,ht⟩=>?_
 have hb:Below W.heap.size W W':=ht.below (by simp) (Nat.le_refl _)
 subst he
 exact⟨_,rfl,post_law (pa:=[]) (pv:=[]) hW' hb (fun _ _ _=>trodAll_mk1 (shut_bool Try.underlying4 _))
  (trodAll_mk2 (shut_int Try.underlying3 w0) (shut_int Try.underlying28 w1)) rfl⟩
theorem runqNobody_of (S:RqSaid) (N:RqNil):Rows.RunqNobodySaid:=
 OpenClaim.holds_of_wide 6 Try.f6 rfl rfl rfl rfl rfl rfl rfl ⟨rfl,rfl,rfl,rfl,rfl⟩ rfl rfl rfl rfl rfl (by kernel_rfl) Try.func6 (by kernel_rfl)
  (of_decide_eq_true (by kernel_rfl)) (by unfold Func.isWrapper;first|(rw [if_pos (by decide+kernel)];kernel_rfl) |(rw [if_neg (by decide+kernel)];exact⟨rfl,rfl⟩))
  (fun os started H enc _=>rqnobody_lifted S N os started H enc)
end Go.Proofs.Ytbfifglcnhfccaa
