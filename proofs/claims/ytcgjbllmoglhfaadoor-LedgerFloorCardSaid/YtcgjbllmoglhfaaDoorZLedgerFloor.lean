/-
  LedgerFloor: for any weights, any slice and section and any deeds the law answers true and leaves its arguments as they were. Condition: none beyond the card's (math/bits' table lies as its own initialiser lays it, tied to the program's text).
-/
import Derived.Test.YtcgjbllmoglhfaaDoorZAC
import Derived.Test.YtcgjbllmoglhfaaDoorZAG
import Derived.Test.YtcgjbllmoglhfaaDoorZAH
import Derived.Test.YtcgjbllmoglhfaaDoorZAl
set_option maxRecDepth 100000
set_option maxHeartbeats 25600000
namespace Go.Proofs.YtcgjbllmoglhfaaDoor
open Go.ChangeShapes Go.WideShapes Go.ChangeAt Go.RowKit Go.Deep
theorem lgfloor_lifted (os:Os) (started:os.Started) (H:Type) (enc:TypeId×Value→H):
  ReturnsInHanded {} Tryd.checked os 4 .any (fun w args=>(Rows.ledgerFloorSpec.pre enc Tryd.prog Tryd.f4 [] false w args∧laidMetH Tryd.prog laidT w)∧sizedMet enc Tryd.prog Tryd.f4 (OpenSpec.ofChange Rows.ledgerFloorSpec) false w args)
   (Rows.ledgerFloorSpec.post enc Tryd.prog Tryd.f4 false true false false):=by
 refine returnsInHanded_of_change_and (C:=Tryd.checked) (X:=fun w _=>laidMetH Tryd.prog laidT w) (fun _ _ _ hh h=>h.of_heap hh) own started (by kernel_rfl) Tryd.func4
  (ChangeSpec.witness_shaped (enc:=enc) (C:=Tryd.checked) (os:=os) (X:=fun w _=>laidMetH Tryd.prog laidT w) false (World.doorLaid Tryd.prog 14 os) #[.slice none 0 0, .agg #[.int .i64 0, .int .i64 0], .slice none 0 0] 8 rfl (World.shaped_of_RefB (by kernel_rfl) (by kernel_rfl)) (by kernel_rfl) (by kernel_rfl) (by kernel_rfl) (door_met os _)) ?_
 intro W base args ds gs before hval0 hW _ _ hL _
 have hval:∀(j:Nat) t v,Tryd.f4.params[j]?=some t→args[j]?=some v→Value.okWide Tryd.prog W .any base t v:=hval0
 have hW':=hW
 obtain⟨p,q,hA0,hV,rfl,hfz,hnd⟩:=hW
 have hA:DataW.TrodAll enc Tryd.prog W 0 (fun _=>true) true Tryd.f4.params.toList args.toList ds p:=hA0
 rw [Tryd.params4] at hA hval
 obtain⟨v0,v1,v2,d0,d1,d2,p0,p1,p2,rfl,rfl,rfl,h0,h1,h2⟩:=trodAll_three hA
 obtain⟨rfl,rfl⟩:=trodVars_none hV
 have h0k:=h0
 have h1k:=h1
 have h2k:=h2
 obtain⟨ao,lb,off,nw,cpw,E,rfl,hmw,hcw,hcm,hao,hE,hJ⟩:=open_list18 Tryd.underlying22 Tryd.underlying3 (by kernel_rfl) (hval 0 22 v0 rfl rfl) h0
 obtain⟨xs,hlen,rfl,_,_,hw⟩:=open_arr Tryd.underlying23 Tryd.underlying3 (by kernel_rfl) (by kernel_rfl) (hval 1 23 v1 rfl rfl) h1
 obtain⟨m0,m1,rfl⟩:=two_of18 hlen
 obtain⟨ao2,lb2,off2,n,cap,F,rfl,hm,hao2,hF,hWf⟩:=open_deeds18 Tryd.underlying24 Tryd.underlying32 (by kernel_rfl) rfl rfl rfl rfl (by kernel_rfl) (by kernel_rfl) (by kernel_rfl) (by kernel_rfl)
  Tryd.underlying5 Tryd.underlying3 Tryd.underlying3 Tryd.underlying30 (hval 2 24 v2 rfl rfl) h2
 clear hA0 hval0
 have hlt0:∀x ∈ p0,x.block < W.heap.size:=fun x hx=>hW'.lt x (by simp [hx])
 have hlt1:∀x ∈ p1,x.block < W.heap.size:=fun x hx=>hW'.lt x (by simp [hx])
 have hlt2:∀x ∈ p2,x.block < W.heap.size:=fun x hx=>hW'.lt x (by simp [hx])
 refine (lgfloor_walk lgSaid lgNil ao lb off nw cpw E m0 m1 ao2 lb2 off2 n cap F W (tab_of_laid hL) (isJ_of (hw m0 (by simp))) (isJ_of (hw m1 (by simp))) hao hE hJ hmw hcw hcm hao2 hF hWf hm).mono fun e W' ⟨he,ht⟩=>?_
 have hb:Below W.heap.size W W':=ht.below (by simp) (Nat.le_refl _)
 subst he
 exact⟨_,rfl,post_law (pv:=[]) hW' hb (fun _ _ _=>trodAll_mk1 (shut_bool Tryd.underlying4 _))
  (trodAll_mk3 (Below.trod laidOut (by kernel_rfl) (of_decide_eq_true (by kernel_rfl)) h0k hb hlt0) (Below.trod laidOut (by kernel_rfl) (of_decide_eq_true (by kernel_rfl)) h1k hb hlt1) (Below.trod laidOut (by kernel_rfl) (of_decide_eq_true (by kernel_rfl)) h2k hb hlt2)) rfl⟩
theorem ledgerFloor_row:Rows.LedgerFloorSaid:=
 OpenClaim.holds_of_wide 4 Tryd.f4 rfl rfl rfl rfl rfl rfl rfl ⟨rfl,rfl,rfl,rfl,rfl⟩ rfl rfl rfl rfl rfl (by kernel_rfl) Tryd.func4 (by kernel_rfl)
  (of_decide_eq_true (by kernel_rfl)) (by unfold Func.isWrapper;first|(rw [if_pos (by decide+kernel)];kernel_rfl) |(rw [if_neg (by decide+kernel)];exact⟨rfl,rfl⟩))
  (fun os started H enc _=>lgfloor_lifted os started H enc)
theorem ledgerFloor_holds:Rows.LedgerFloorCardSaid:=
 Claim7.holds_tied_plain_at .later [] [.data] true Rows.ledgerFloorCard.stood.harness false
  ledgerFloor_row (fun _ h=>by cases h) (by kernel_rfl) (fun _ h=>by cases h) ledgerFloor_row_tie rfl ⟨rfl,rfl⟩ (by kernel_rfl) rfl
  (fun f fn hf hfn=>by
    obtain rfl:f=4:=Option.some.inj ((show Tryd.prog.funcNamed "forelock/forelocklaw18.LedgerFloor" =some 4 by kernel_rfl).symm.trans hf) |>.symm
    obtain rfl:fn=Tryd.f4:=(Option.some.inj (Tryd.func4.symm.trans hfn)).symm
    exact⟨by kernel_rfl,fun j t ht=>by
     rw [Tryd.params4] at ht
     have hm:t ∈ [22,23,24]:=by simpa using Array.mem_of_getElem? ht
     have hall:([22,23,24].all fun u=>!Tryd.prog.wantsStandIn u)=true:=by kernel_rfl
     exact (show Tryd.prog.wantsStandIn t=false by simpa using List.all_eq_true.1 hall t hm)⟩)
  (by kernel_rfl)
end Go.Proofs.YtcgjbllmoglhfaaDoor
