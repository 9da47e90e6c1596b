/-
  LedgerBehind: for any weights, any deeds and any number the law answers true and leaves its arguments as they were. Condition: none beyond the card's (math/bits' table lies as its own initialiser lays it, tied to the program's text).
-/
import Derived.Test.YtcgjbllmoglhfaaDoorZAC
import Derived.Test.YtcgjbllmoglhfaaDoorZAG
import Derived.Test.YtcgjbllmoglhfaaDoorZAI
import Derived.Test.YtcgjbllmoglhfaaDoorZAl
set_option maxRecDepth 100000
set_option maxHeartbeats 25600000
namespace Go.Proofs.YtcgjbllmoglhfaaDoor
open Go.ChangeShapes Go.WideShapes Go.ChangeAt Go.RowKit Go.Deep
theorem lgbeh_lifted (os:Os) (started:os.Started) (H:Type) (enc:TypeId×Value→H):
  ReturnsInHanded {} Tryd.checked os 5 .any (fun w args=>(Rows.ledgerBehindSpec.pre enc Tryd.prog Tryd.f5 [] false w args∧laidMetH Tryd.prog laidT w)∧sizedMet enc Tryd.prog Tryd.f5 (OpenSpec.ofChange Rows.ledgerBehindSpec) false w args)
   (Rows.ledgerBehindSpec.post enc Tryd.prog Tryd.f5 false true false false):=by
 refine returnsInHanded_of_change_and (C:=Tryd.checked) (X:=fun w _=>laidMetH Tryd.prog laidT w) (fun _ _ _ hh h=>h.of_heap hh) own started (by kernel_rfl) Tryd.func5
  (ChangeSpec.witness_shaped (enc:=enc) (C:=Tryd.checked) (os:=os) (X:=fun w _=>laidMetH Tryd.prog laidT w) false (World.doorLaid Tryd.prog 14 os) #[.slice none 0 0, .slice none 0 0, .int .i64 0] 8 rfl (World.shaped_of_RefB (by kernel_rfl) (by kernel_rfl)) (by kernel_rfl) (by kernel_rfl) (by kernel_rfl) (door_met os _)) ?_
 intro W base args ds gs before hval0 hW _ _ hL _
 have hval:∀(j:Nat) t v,Tryd.f5.params[j]?=some t→args[j]?=some v→Value.okWide Tryd.prog W .any base t v:=hval0
 have hW':=hW
 obtain⟨p,q,hA0,hV,rfl,hfz,hnd⟩:=hW
 have hA:DataW.TrodAll enc Tryd.prog W 0 (fun _=>true) true Tryd.f5.params.toList args.toList ds p:=hA0
 rw [Tryd.params5] at hA hval
 obtain⟨v0,v1,v2,d0,d1,d2,p0,p1,p2,rfl,rfl,rfl,h0,h1,h2⟩:=trodAll_three hA
 obtain⟨rfl,rfl⟩:=trodVars_none hV
 have h0k:=h0
 have h1k:=h1
 obtain⟨ao,lb,off,nw,cpw,E,rfl,hmw,hcw,hcm,hao,hE,hJ⟩:=open_list18 Tryd.underlying22 Tryd.underlying3 (by kernel_rfl) (hval 0 22 v0 rfl rfl) h0
 obtain⟨ao2,lb2,off2,n,cap,F,rfl,hm,hao2,hF,hWf⟩:=open_deeds18 Tryd.underlying24 Tryd.underlying32 (by kernel_rfl) rfl rfl rfl rfl (by kernel_rfl) (by kernel_rfl) (by kernel_rfl) (by kernel_rfl)
  Tryd.underlying5 Tryd.underlying3 Tryd.underlying3 Tryd.underlying30 (hval 1 24 v1 rfl rfl) h1
 obtain⟨g,rfl,rfl,rfl,w2⟩:=open_int Tryd.underlying3 (hval 2 3 v2 rfl rfl) h2
 clear hA0 hval0
 have hlt0:∀x ∈ p0,x.block < W.heap.size:=fun x hx=>hW'.lt x (by simp [hx])
 have hlt1:∀x ∈ p1,x.block < W.heap.size:=fun x hx=>hW'.lt x (by simp [hx])
 refine (lgbeh_walk lgSaid ao lb off nw cpw E ao2 lb2 off2 n cap F g W (tab_of_laid hL) (isJ_of w2) hao hE hJ hmw hcw hcm hao2 hF hWf hm).mono fun e W' ⟨he,ht⟩=>?_
 have hb:Below W.heap.size W W':=ht.below (by simp) (Nat.le_refl _)
 subst he
 exact⟨_,rfl,post_law (pv:=[]) hW' hb (fun _ _ _=>trodAll_mk1 (shut_bool Tryd.underlying4 _))
  (trodAll_mk3 (Below.trod laidOut (by kernel_rfl) (of_decide_eq_true (by kernel_rfl)) h0k hb hlt0) (Below.trod laidOut (by kernel_rfl) (of_decide_eq_true (by kernel_rfl)) h1k hb hlt1) (shut_int Tryd.underlying3 w2)) rfl⟩
theorem ledgerBehind_row:Rows.LedgerBehindSaid:=
 OpenClaim.holds_of_wide 5 Tryd.f5 rfl rfl rfl rfl rfl rfl rfl ⟨rfl,rfl,rfl,rfl,rfl⟩ rfl rfl rfl rfl rfl (by kernel_rfl) Tryd.func5 (by kernel_rfl)
  (of_decide_eq_true (by kernel_rfl)) (by unfold Func.isWrapper;first|(rw [if_pos (by decide+kernel)];kernel_rfl) |(rw [if_neg (by decide+kernel)];exact⟨rfl,rfl⟩))
  (fun os started H enc _=>lgbeh_lifted os started H enc)
theorem ledgerBehind_holds:Rows.LedgerBehindCardSaid:=
 Claim7.holds_tied_plain_at .later [] [.data] true Rows.ledgerBehindCard.stood.harness false
  ledgerBehind_row (fun _ h=>by cases h) (by kernel_rfl) (fun _ h=>by cases h) ledgerBehind_row_tie rfl ⟨rfl,rfl⟩ (by kernel_rfl) rfl
  (fun f fn hf hfn=>by
    obtain rfl:f=5:=Option.some.inj ((show Tryd.prog.funcNamed "forelock/forelocklaw18.LedgerBehind" =some 5 by kernel_rfl).symm.trans hf) |>.symm
    obtain rfl:fn=Tryd.f5:=(Option.some.inj (Tryd.func5.symm.trans hfn)).symm
    exact⟨by kernel_rfl,fun j t ht=>by
     rw [Tryd.params5] at ht
     have hm:t ∈ [22,24,3]:=by simpa using Array.mem_of_getElem? ht
     have hall:([22,24,3].all fun u=>!Tryd.prog.wantsStandIn u)=true:=by kernel_rfl
     exact (show Tryd.prog.wantsStandIn t=false by simpa using List.all_eq_true.1 hall t hm)⟩)
  (by kernel_rfl)
end Go.Proofs.YtcgjbllmoglhfaaDoor
